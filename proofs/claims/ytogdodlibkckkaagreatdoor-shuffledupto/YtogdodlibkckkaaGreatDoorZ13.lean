import Derived.Test.YtogdodlibkckkaaGreatDoorZ05
import Derived.BigQuiet
import Derived.Deep.AppendLies
namespace Go.Proofs.YtogdodlibkckkaaGreatDoor
set_option maxHeartbeats 20000000
set_option maxRecDepth 100000
open Go.RowKit Tryz
abbrev IN:=yF×yF
abbrev AY:=yF×yF×List IN
def Jr(w:World)(v:Value)(l:List IN):Prop:=∃a cap,v=.slice a l.length cap/\l.length<=cap/\(l=[]\/∃g b,a=some ⟨g,b,none⟩/\∀j c,l[j]?=some c->w.cell? ⟨g,b+j*2,none⟩=some (.string c.1)/\w.cell? ⟨g,b+j*2+1,none⟩=some (.string c.2))
def Fv(w:World)(v:Value)(l:List AY):Prop:=∃a cap,v=.slice a l.length cap/\l.length<=cap/\(l=[]\/∃g b,a=some ⟨g,b,none⟩/\∀j r,l[j]?=some r->w.cell? ⟨g,b+j*3,none⟩=some (.string r.1)/\w.cell? ⟨g,b+j*3+1,none⟩=some (.string r.2.1)/\∃u,w.cell? ⟨g,b+j*3+2,none⟩=some u/\Jr w u r.2.2)
theorem Jr.below{w w':World}{v:Value}{l:List IN}(f:Jr w v l)(hb:yG w w'):Jr w' v l:=by
 obtain⟨a,cap,h,i,b⟩:=f;refine⟨a,cap,h,i,?_⟩;rcases b with b|⟨g,k,b,d⟩
 ·exact Or.inl b
 ·exact Or.inr ⟨g,k,b,fun j c e=>⟨Ah hb (d j c e).1,Ah hb (d j c e).2⟩⟩
theorem Fv.below{w w':World}{v:Value}{l:List AY}(c:Fv w v l)(hb:yG w w'):Fv w' v l:=by
 obtain⟨a,cap,d,e,b⟩:=c;refine⟨a,cap,d,e,?_⟩;rcases b with b|⟨g,k,b,f⟩
 ·exact Or.inl b
 ·refine Or.inr ⟨g,k,b,fun j r h=>?_⟩
  obtain⟨c0,c1,u,c2,i⟩:=f j r h;exact⟨Ah hb c0,Ah hb c1,u,Ah hb c2,i.below hb⟩
theorem Jr.at{w:World}{a:Option Addr}{cap i:Nat}{l:List IN}{c:IN}(h:Jr w (.slice a l.length cap) l)(d:l[i]?=some c):∃g b,a=some ⟨g,b,none⟩/\w.cell? ⟨g,b+i*2,none⟩=some (.string c.1)/\w.cell? ⟨g,b+i*2+1,none⟩=some (.string c.2):=by
 obtain⟨m,n,f,p,j⟩:=h;cases f;rcases j with e|⟨g,b,e,k⟩
 ·rw[e]at d;simp at d
 ·exact⟨g,b,e,k i c d⟩
theorem Fv.at{w:World}{a:Option Addr}{cap i:Nat}{l:List AY}{r:AY}(k:Fv w (.slice a l.length cap) l)(f:l[i]?=some r):∃g b c d,a=some ⟨g,b,none⟩/\w.cell? ⟨g,b+i*3,none⟩=some (.string r.1)/\w.cell? ⟨g,b+i*3+1,none⟩=some (.string r.2.1)/\w.cell? ⟨g,b+i*3+2,none⟩=some (.slice c r.2.2.length d)/\Jr w (.slice c r.2.2.length d) r.2.2:=by
 obtain⟨q,s,j,t,m⟩:=k;cases j;rcases m with e|⟨g,b,e,n⟩
 ·rw[e]at f;simp at f
 ·obtain⟨c0,c1,u,c2,h⟩:=n i r f
  have p:=h;obtain⟨c,d,rfl,_⟩:=h;exact⟨g,b,c,d,e,c0,c1,c2,p⟩

def tx(s:St):yF:=if Ae s 3=true then(hd s).s else⟨#[]⟩
def Il(s:St):St:=if Ae s 3=true then tl s else none
theorem Yt(k:Nat):(rk k=3)↔k=3:=by
 unfold rk;split<;>omega
inductive RV where
 |mk (sh:Nat) (n:Int) (s:yF) (l:List RV)
def Ba(w:World)(B:Nat->Prop):Nat->FV->RV->Prop
 |0,v,.mk sh n s l=>v.sh=sh/\v.n=n/\v.s=s/\l=[]/\v.ln=0
 |k+1,v,.mk sh n s l=>v.sh=sh/\v.n=n/\v.s=s/\v.ln=l.length/\∃fs:List FV,fs.length=l.length/\
   (l=[]\/∃g,B g/\v.la=some ⟨g,0,none⟩/\∀j c,fs[j]?=some c->w.cell? ⟨g,j*4,none⟩=some (.int .i64 c.sh)/\w.cell? ⟨g,j*4+1,none⟩=some (.int .i64 c.n)/\w.cell? ⟨g,j*4+2,none⟩=some (.string c.s)/\w.cell? ⟨g,j*4+3,none⟩=some (.slice c.la c.ln c.lc))/\
   ∀(i:Nat) (f:FV) (r:RV),fs[i]?=some f->l[i]?=some r->Ba w B k f r
theorem Ba.frame{w w':World}{B B':Nat->Prop}(b:∀g,B g->∀o,w'.cell? ⟨g,o,none⟩=w.cell? ⟨g,o,none⟩)(h:∀g,B g->B' g):∀{k:Nat} {v:FV} {t:RV},Ba w B k v t->Ba w' B' k v t
 |0,_,.mk ..,e=>e
 |k+1,v,.mk sh n s l,e=>by
  obtain⟨m,p,q,u,fs,x,a,y⟩:=e;refine⟨m,p,q,u,fs,x,?_,fun i f r A D=>Ba.frame b h (y i f r A D)⟩;rcases a with a|⟨g,d,z,a⟩
  ·exact Or.inl a
  ·refine Or.inr ⟨g,h g d,z,fun j c C=>?_⟩
   rw[b g d,b g d,b g d,b g d];exact a j c C
theorem Ba.deeper{w:World}{B:Nat->Prop}:∀{k:Nat} {v:FV} {t:RV},Ba w B k v t->Ba w B (k+1) v t
 |0,v,.mk sh n s l,a=>by
  obtain⟨b,c,d,e,g⟩:=a;subst e;exact⟨b,c,d,g,[],rfl,Or.inl rfl,fun i f r h _=>by simp at h⟩
 |k+1,v,.mk sh n s l,a=>by
  obtain⟨b,c,d,e,fs,g,j,m⟩:=a;exact⟨b,c,d,e,fs,g,j,fun i f r h p=>(m i f r h p).deeper⟩
theorem Ba.flat{w:World}{B:Nat->Prop}(k:Nat)(v:FV)(a:v.ln=0):Ba w B k v (.mk v.sh v.n v.s []):=by
 cases k with
 |zero=>exact⟨rfl,rfl,rfl,rfl,a⟩
 |succ k=>exact⟨rfl,rfl,rfl,a,[],rfl,Or.inl rfl,fun i f r b _=>by simp at b⟩
def SK(v:FV):RV:=.mk v.sh v.n v.s []
mutual
def Bb:Nat->Nat->St->RV×St
 |0,_,s=>(.mk 0 0 ⟨#[]⟩ [],s)
 |f+1,d,s=>
  if IB s=true then(SK (FA s),tl s)
  else if Ae s 5=true then(.mk 6 0 ⟨#[]⟩ [],tl s)
  else if Ae s 11=true then(.mk 4 0 (tx (tl s)) [],Il (tl s))
  else(.mk 5 0 ⟨#[]⟩ (Bj f d (if 10<=d then none else mustT s (Ae s 12))).1,(Bj f d (if 10<=d then none else mustT s (Ae s 12))).2)
def Bj:Nat->Nat->St->List RV×St
 |0,_,s=>([],s)
 |f+1,d,s=>
  if s=none then([],s)
  else if Ae s 13=true then([],tl s)
  else((Bb f (d+1) s).1::(Bj f d (Bb f (d+1) s).2).1,(Bj f d (Bb f (d+1) s).2).2)
end
theorem Ba.le{w:World}{B:Nat->Prop}{k:Nat}{v:FV}{t:RV}(a:Ba w B k v t):∀{m:Nat},k<=m->Ba w B m v t:=by
 intro m b
 induction b with
 |refl=>exact a
 |step _ c=>exact c.deeper
theorem WA(s:St):ln (Il s)<=ln s:=by
 unfold Il;split
 ·exact BI s
 ·exact wZ _
theorem mM(s:St)(b:IB s=true):ln (tl s)<ln s:=by
 have a:=jS s b;have c:s≠none:=by
  intro e;subst e;simp[Ae,hd,LE]at a
 have:=nA s a c;omega
theorem mN(s:St)(k:Nat)(b:k≠0)(a:s≠none):ln (mustT s (Ae s k))<ln s:=by
 cases e:Ae s k
 ·cases s with
  |none=>exact absurd rfl a
  |some l=>simp[mustT,ln]
 ·have:=ET s k b e
  simpa [mustT]using this
theorem LV(f d:Nat):Bj f d none=([],none):=by
 cases f with
 |zero=>rw[Bj]
 |succ f=>rw[Bj,xH rfl]
theorem RU(f:Nat):(∀d s,ln (Bb f d s).2<=ln s)/\(∀d s,ln (Bj f d s).2<=ln s):=by
 induction f with
 |zero=>exact⟨fun d s=>by rw[Bb];exact wQ _,fun d s=>by rw[Bj];exact wQ _⟩
 |succ f a=>
  refine⟨fun d s=>?_,fun d s=>?_⟩
  ·rw[Bb]
   split
   ·exact BI s
   ·split
    ·exact BI s
    ·split
     ·exact wV (WA _) (BI s)
     ·refine wV (a.2 d _) ?_
      split
      ·exact wZ _
      ·exact DA s _
  ·rw[Bj]
   split
   ·exact wQ _
   ·split
    ·exact BI s
    ·exact wV (a.2 d _) (a.1 (d+1) s)
theorem Wd(f d:Nat)(s:St)(b:s≠none):ln (Bb (f+1) d s).2<ln s:=by
 rw[Bb];split
 ·rename_i a;exact mM s a
 ·split
  ·rename_i a;exact ET s 5 (by decide) a
  ·split
   ·rename_i a;exact Nat.lt_of_le_of_lt (WA _) (ET s 11 (by decide) a)
   ·refine Nat.lt_of_le_of_lt ((RU f).2 d _) ?_
    split
    ·cases s with
     |none=>exact absurd rfl b
     |some l=>simp[ln]
    ·exact mN s 12 (by decide) b
def Ld(v:FV):List Value:=[.int .i64 v.sh,.int .i64 v.n,.string v.s,.slice v.la v.ln v.lc]
theorem Vj:∀(fs:List FV) (a:Nat) (c:FV) (j:Nat),fs[a]?=some c->j<4->(fs.flatMap Ld)[a*4+j]?=(Ld c)[j]?
 |[],a,t,j,b,_=>by simp at b
 |x::e,0,t,j,b,d=>by
  simp at b;subst b;rw[List.flatMap_cons,xN (by show _<4;omega)];simp
 |x::e,a+1,t,j,b,d=>by
  rw[List.flatMap_cons,xO (by show 4<=_;omega)];rw[show(a+1)*4+j-(Ld x).length=a*4+j by show(a+1)*4+j-4=_;omega];exact Vj e a t j (by simpa using b) d
theorem wA{T:TypeId}{sh:Nat}{w:World}{B0:Nat}{vL:Value}{fs:List FV}{l:List RV}{B:Nat->Prop}{k:Nat}(h:w.ownsRow B0 T 4 vL fs.length (fs.flatMap Ld))(b:fs.length=l.length)
 (m:∀(i:Nat) (f:FV) (r:RV),fs[i]?=some f->l[i]?=some r->Ba w B k f r) (p:∀g,vL.ownBlock=some g->B g):
 ∃a c,vL=.slice a fs.length c/\Ba w B (k+1) ⟨sh,0,⟨#[]⟩,a,fs.length,c⟩ (.mk sh 0 ⟨#[]⟩ l):=by
 rcases h.2 with⟨d,n⟩|⟨g,cap,u,d,v,x,z⟩
 ·have t:l=[]:=xE (by omega)
  refine⟨none,0,by rw[d,n],rfl,rfl,rfl,by simp[b],fs,b,Or.inl t,m⟩
 ·subst d
  refine⟨some ⟨g,0,none⟩,cap,rfl,rfl,rfl,rfl,by simp[b],fs,b,Or.inr ⟨g,p g rfl,rfl,fun j c e=>?_⟩,m⟩;have y:j<fs.length:=(wU.1 e).1;have q:∀i,i<4->w.cell? ⟨g,j*4+i,none⟩=(Ld c)[i]?:=fun i s=>by
   rw[h.cellAt _ (by omega)];exact Vj fs j c i e s
  exact⟨q 0 (by omega),q 1 (by omega),q 2 (by omega),q 3 (by omega)⟩
theorem mE{T:TypeId}{sh:Nat}{wr d:World}{B0 j k:Nat}{fs:List FV}{l:List RV}{aL:Option Addr}{cL:Nat}(h:wr.ownsRow B0 T 4 (.slice aL fs.length cL) fs.length (fs.flatMap Ld))(t:fs.length=l.length)
 (v:∀(i:Nat) (x:FV) (r:RV),fs[i]?=some x->l[i]?=some r->Ba wr (fun g=>B0<=g/\g<wr.heap.size/\(Value.slice aL fs.length cL).ownBlock≠some g) k x r)
 (C:j<=B0) (p:∀g,B0<=g->∀o,d.cell? ⟨g,o,none⟩=wr.cell? ⟨g,o,none⟩) (A:wr.heap.size<=d.heap.size):
 Ba d (fun g=>j<=g/\g<d.heap.size) (k+1) ⟨sh,0,⟨#[]⟩,aL,fs.length,cL⟩ (.mk sh 0 ⟨#[]⟩ l):=by
 obtain⟨a,c,e,m⟩:=wA (B:=fun g=>B0<=g/\g<wr.heap.size) (k:=k) h t (fun i x r w u=>(v i x r w u).frame (fun _ _ _=>rfl) (fun g b=>⟨b.1,b.2.1⟩)) (fun g b=>by
  rcases h.2 with⟨f,_⟩|⟨z,cap,y,f,q,s,_⟩
  ·injection f with n _ _;subst n;cases b
  ·cases f;cases b
   exact⟨q,Ab s⟩)
 cases e;exact m.frame (fun g b o=>p g b.1 o) (fun g b=>⟨by omega,by omega⟩)
theorem pK{a b c d:Value}(f:a.oneCell'=true)(g:b.oneCell'=true)(h:c.oneCell'=true)(i:d.oneCell'=true):∀u∈[a,b,c,d],u.oneCell'=true:=by
 intro u e;simp at e;rcases e with rfl|rfl|rfl|rfl<;>assumption
theorem pP{w:World}{base n size N:Nat}{e:TypeId}{v:Value}{xs:List Value}(a:w.ownsRow base e size v n xs)(f:N<base):v.ownBlock≠some N:=by
 rcases a.2 with⟨x,_⟩|⟨g,cap,c,b,h,i,r⟩
 ·rw[x];intro e;cases e
 ·rw[b];intro e;have d:g=N:=xD e;omega
theorem Ln{w:World}{base n size:Nat}{e:TypeId}{v:Value}{xs:List Value}(d:w.ownsRow base e size v n xs)(k:Nat)(a:v.ownBlock=some k):k<w.heap.size:=by
 rcases d.2 with⟨x,_⟩|⟨g,cap,h,f,i,c,r⟩
 ·rw[x]at a;cases a
 ·rw[f]at a
  have b:g=k:=xD a;rw[<-b];exact Ab c
theorem Mr{w:World}{base n size:Nat}{e:TypeId}{v:Value}{xs:List Value}(b:w.ownsRow base e size v n xs)(k:Nat)(a:v.ownBlock=some k):base<=k:=by
 rcases Nat.lt_or_ge k base with q|q
 ·exact absurd a (pP b q)
 ·exact q
theorem bA{w a:World}(b:yG w a)(o:Obj):yG w (a.alloc o):=b.alloc b.size _
theorem bS{w b:World}(c:yG w b)(a:Addr)(d:w.heap.size<=a.block)(v:Value):yG w (b.setCell a v):=c.setCell d _
theorem bT{w a Y:World}(b:yG w a)(k:yG a Y):yG w Y:=b.trans (k.mono b.size)
theorem bK{w a Y:World}{b:Nat}(c:yG w a)(k:Ag b a Y)(hb:w.heap.size<=b):yG w Y:=c.trans (k.below hb c.size)
def JL(x:yF):Bool:=Nr (Bb 1603 0 (Ad x)).2
def CZ(x:yF):RV:=(Bb 1603 0 (Ad x)).1
end Go.Proofs.YtogdodlibkckkaaGreatDoor
