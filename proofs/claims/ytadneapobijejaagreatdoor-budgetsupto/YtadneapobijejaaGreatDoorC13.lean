import Derived.Test.YtadneapobijejaaGreatDoorC05
import Derived.BigQuiet
import Derived.Deep.AppendLies
namespace Go.Proofs.YtadneapobijejaaGreatDoor
set_option maxHeartbeats 20000000
set_option maxRecDepth 100000
open Go.RowKit Tryz
abbrev IA:=vD×vD
abbrev Bc:=vD×vD×List IA
def Jg(w:World)(v:Value)(l:List IA):Prop:=∃a cap,v=.slice a l.length cap/\l.length<=cap/\(l=[]\/∃g off,a=some ⟨g,off,none⟩/\∀j c,l[j]?=some c->w.cell? ⟨g,off+j*2,none⟩=some (.string c.1)/\w.cell? ⟨g,off+j*2+1,none⟩=some (.string c.2))
def Fh(w:World)(v:Value)(l:List Bc):Prop:=∃a cap,v=.slice a l.length cap/\l.length<=cap/\(l=[]\/∃g off,a=some ⟨g,off,none⟩/\∀j r,l[j]?=some r->w.cell? ⟨g,off+j*3,none⟩=some (.string r.1)/\w.cell? ⟨g,off+j*3+1,none⟩=some (.string r.2.1)/\∃u,w.cell? ⟨g,off+j*3+2,none⟩=some u/\Jg w u r.2.2)
theorem Jg.below{w w':World}{v:Value}{l:List IA}(h:Jg w v l)(hb:vE w w'):Jg w' v l:=by
 obtain⟨a,cap,h1,h2,h3⟩:=h;refine⟨a,cap,h1,h2,?_⟩;rcases h3 with h3|⟨g,off,h3,h4⟩
 ·exact Or.inl h3
 ·exact Or.inr ⟨g,off,h3,fun j c hj=>⟨Ah hb (h4 j c hj).1,Ah hb (h4 j c hj).2⟩⟩
theorem Fh.below{w w':World}{v:Value}{l:List Bc}(h:Fh w v l)(hb:vE w w'):Fh w' v l:=by
 obtain⟨a,cap,h1,h2,h3⟩:=h;refine⟨a,cap,h1,h2,?_⟩;rcases h3 with h3|⟨g,off,h3,h4⟩
 ·exact Or.inl h3
 ·refine Or.inr ⟨g,off,h3,fun j r hj=>?_⟩
  obtain⟨c0,c1,u,c2,hu⟩:=h4 j r hj;exact⟨Ah hb c0,Ah hb c1,u,Ah hb c2,hu.below hb⟩
theorem Jg.at{w:World}{a:Option Addr}{cap i:Nat}{l:List IA}{c:IA}(h:Jg w (.slice a l.length cap) l)(hi:l[i]?=some c):∃g off,a=some ⟨g,off,none⟩/\w.cell? ⟨g,off+i*2,none⟩=some (.string c.1)/\w.cell? ⟨g,off+i*2+1,none⟩=some (.string c.2):=by
 obtain⟨a',cap',e1,h2,h3⟩:=h;cases e1;rcases h3 with e|⟨g,off,e,h4⟩
 ·rw[e]at hi;simp at hi
 ·exact⟨g,off,e,h4 i c hi⟩
theorem Fh.at{w:World}{a:Option Addr}{cap i:Nat}{l:List Bc}{r:Bc}(h:Fh w (.slice a l.length cap) l)(hi:l[i]?=some r):∃g off aC cC,a=some ⟨g,off,none⟩/\w.cell? ⟨g,off+i*3,none⟩=some (.string r.1)/\w.cell? ⟨g,off+i*3+1,none⟩=some (.string r.2.1)/\w.cell? ⟨g,off+i*3+2,none⟩=some (.slice aC r.2.2.length cC)/\Jg w (.slice aC r.2.2.length cC) r.2.2:=by
 obtain⟨a',cap',e1,h2,h3⟩:=h;cases e1;rcases h3 with e|⟨g,off,e,h4⟩
 ·rw[e]at hi;simp at hi
 ·obtain⟨c0,c1,u,c2,hu⟩:=h4 i r hi
  have hu0:=hu;obtain⟨aC,cC,rfl,_⟩:=hu;exact⟨g,off,aC,cC,e,c0,c1,c2,hu0⟩

def tx(s:St):vD:=if Ad s 3=true then(hd s).s else⟨#[]⟩
def IZ(s:St):St:=if Ad s 3=true then tl s else none
theorem qI(k:Nat):(rk k=3)↔k=3:=by
 unfold rk;split<;>omega
inductive RV where
 |mk (sh:Nat) (n:Int) (s:vD) (l:List RV)
def AX(w:World)(B:Nat->Prop):Nat->FV->RV->Prop
 |0,v,.mk sh n s l=>v.sh=sh/\v.n=n/\v.s=s/\l=[]/\v.ln=0
 |k+1,v,.mk sh n s l=>v.sh=sh/\v.n=n/\v.s=s/\v.ln=l.length/\∃fs:List FV,fs.length=l.length/\
   (l=[]\/∃g,B g/\v.la=some ⟨g,0,none⟩/\∀j c,fs[j]?=some c->w.cell? ⟨g,j*4,none⟩=some (.int .i64 c.sh)/\w.cell? ⟨g,j*4+1,none⟩=some (.int .i64 c.n)/\w.cell? ⟨g,j*4+2,none⟩=some (.string c.s)/\w.cell? ⟨g,j*4+3,none⟩=some (.slice c.la c.ln c.lc))/\
   ∀(i:Nat) (f:FV) (r:RV),fs[i]?=some f->l[i]?=some r->AX w B k f r
theorem AX.frame{w w':World}{B B':Nat->Prop}(hc:∀g,B g->∀o,w'.cell? ⟨g,o,none⟩=w.cell? ⟨g,o,none⟩)(hB:∀g,B g->B' g):∀{k:Nat} {v:FV} {t:RV},AX w B k v t->AX w' B' k v t
 |0,_,.mk ..,h=>h
 |k+1,v,.mk sh n s l,h=>by
  obtain⟨h1,h2,h3,h4,fs,h5,h6,h7⟩:=h;refine⟨h1,h2,h3,h4,fs,h5,?_,fun i f r hf hr=>AX.frame hc hB (h7 i f r hf hr)⟩;rcases h6 with h6|⟨g,hg,ha,h6⟩
  ·exact Or.inl h6
  ·refine Or.inr ⟨g,hB g hg,ha,fun j c hj=>?_⟩
   rw[hc g hg,hc g hg,hc g hg,hc g hg];exact h6 j c hj
theorem AX.deeper{w:World}{B:Nat->Prop}:∀{k:Nat} {v:FV} {t:RV},AX w B k v t->AX w B (k+1) v t
 |0,v,.mk sh n s l,h=>by
  obtain⟨h1,h2,h3,h4,h5⟩:=h;subst h4;exact⟨h1,h2,h3,h5,[],rfl,Or.inl rfl,fun i f r hf _=>by simp at hf⟩
 |k+1,v,.mk sh n s l,h=>by
  obtain⟨h1,h2,h3,h4,fs,h5,h6,h7⟩:=h;exact⟨h1,h2,h3,h4,fs,h5,h6,fun i f r hf hr=>(h7 i f r hf hr).deeper⟩
theorem AX.flat{w:World}{B:Nat->Prop}(k:Nat)(v:FV)(h:v.ln=0):AX w B k v (.mk v.sh v.n v.s []):=by
 cases k with
 |zero=>exact⟨rfl,rfl,rfl,rfl,h⟩
 |succ k=>exact⟨rfl,rfl,rfl,h,[],rfl,Or.inl rfl,fun i f r hf _=>by simp at hf⟩
def Xy(v:FV):RV:=.mk v.sh v.n v.s []
mutual
def Bg:Nat->Nat->St->RV×St
 |0,_,s=>(.mk 0 0 ⟨#[]⟩ [],s)
 |f+1,d,s=>
  if Ip s=true then(Xy (Gq s),tl s)
  else if Ad s 5=true then(.mk 6 0 ⟨#[]⟩ [],tl s)
  else if Ad s 11=true then(.mk 4 0 (tx (tl s)) [],IZ (tl s))
  else(.mk 5 0 ⟨#[]⟩ (Bm f d (if 10<=d then none else mustT s (Ad s 12))).1,(Bm f d (if 10<=d then none else mustT s (Ad s 12))).2)
def Bm:Nat->Nat->St->List RV×St
 |0,_,s=>([],s)
 |f+1,d,s=>
  if s=none then([],s)
  else if Ad s 13=true then([],tl s)
  else((Bg f (d+1) s).1::(Bm f d (Bg f (d+1) s).2).1,(Bm f d (Bg f (d+1) s).2).2)
end
theorem AX.le{w:World}{B:Nat->Prop}{k:Nat}{v:FV}{t:RV}(h:AX w B k v t):∀{m:Nat},k<=m->AX w B m v t:=by
 intro m hm
 induction hm with
 |refl=>exact h
 |step _ ih=>exact ih.deeper
theorem Vr(s:St):ln (IZ s)<=ln s:=by
 unfold IZ;split
 ·exact BG s
 ·exact tU _
theorem jG(s:St)(h:Ip s=true):ln (tl s)<ln s:=by
 have h0:=fQ s h;have hn:s≠none:=by
  intro e;subst e;simp[Ad,hd,Li]at h0
 have:=jR s h0 hn;omega
theorem jH(s:St)(k:Nat)(hk:k≠0)(h:s≠none):ln (mustT s (Ad s k))<ln s:=by
 cases e:Ad s k
 ·cases s with
  |none=>exact absurd rfl h
  |some l=>simp[mustT,ln]
 ·have:=EG s k hk e
  simpa [mustT]using this
theorem Lv(f d:Nat):Bm f d none=([],none):=by
 cases f with
 |zero=>rw[Bm]
 |succ f=>rw[Bm,uC rfl]
theorem Rg(f:Nat):(∀d s,ln (Bg f d s).2<=ln s)/\(∀d s,ln (Bm f d s).2<=ln s):=by
 induction f with
 |zero=>exact⟨fun d s=>by rw[Bg];exact tL _,fun d s=>by rw[Bm];exact tL _⟩
 |succ f ih=>
  refine⟨fun d s=>?_,fun d s=>?_⟩
  ·rw[Bg]
   split
   ·exact BG s
   ·split
    ·exact BG s
    ·split
     ·exact tQ (Vr _) (BG s)
     ·refine tQ (ih.2 d _) ?_
      split
      ·exact tU _
      ·exact Do s _
  ·rw[Bm]
   split
   ·exact tL _
   ·split
    ·exact BG s
    ·exact tQ (ih.2 d _) (ih.1 (d+1) s)
theorem UW(f d:Nat)(s:St)(h:s≠none):ln (Bg (f+1) d s).2<ln s:=by
 rw[Bg];split
 ·rename_i hl;exact jG s hl
 ·split
  ·rename_i hl;exact EG s 5 (by decide) hl
  ·split
   ·rename_i hl;exact Nat.lt_of_le_of_lt (Vr _) (EG s 11 (by decide) hl)
   ·refine Nat.lt_of_le_of_lt ((Rg f).2 d _) ?_
    split
    ·cases s with
     |none=>exact absurd rfl h
     |some l=>simp[ln]
    ·exact jH s 12 (by decide) h
def KL(v:FV):List Value:=[.int .i64 v.sh,.int .i64 v.n,.string v.s,.slice v.la v.ln v.lc]
theorem Ul:∀(fs:List FV) (a:Nat) (c:FV) (j:Nat),fs[a]?=some c->j<4->(fs.flatMap KL)[a*4+j]?=(KL c)[j]?
 |[],a,t,j,h,_=>by simp at h
 |x::ts,0,t,j,h,hj=>by
  simp at h;subst h;rw[List.flatMap_cons,uI (by show _<4;omega)];simp
 |x::ts,a+1,t,j,h,hj=>by
  rw[List.flatMap_cons,uJ (by show 4<=_;omega)];rw[show(a+1)*4+j-(KL x).length=a*4+j by show(a+1)*4+j-4=_;omega];exact Ul ts a t j (by simpa using h) hj
theorem sW{T:TypeId}{sh:Nat}{w:World}{B0:Nat}{vL:Value}{fs:List FV}{l:List RV}{B:Nat->Prop}{k:Nat}(hown:w.ownsRow B0 T 4 vL fs.length (fs.flatMap KL))(hl:fs.length=l.length)
 (hsub:∀(i:Nat) (f:FV) (r:RV),fs[i]?=some f->l[i]?=some r->AX w B k f r) (hB:∀g,vL.ownBlock=some g->B g):
 ∃a c,vL=.slice a fs.length c/\AX w B (k+1) ⟨sh,0,⟨#[]⟩,a,fs.length,c⟩ (.mk sh 0 ⟨#[]⟩ l):=by
 rcases hown.2 with⟨hv,h0⟩|⟨g,cap,cur,hv,hg,hh,hr⟩
 ·have hln:l=[]:=tZ (by omega)
  refine⟨none,0,by rw[hv,h0],rfl,rfl,rfl,by simp[hl],fs,hl,Or.inl hln,hsub⟩
 ·subst hv
  refine⟨some ⟨g,0,none⟩,cap,rfl,rfl,rfl,rfl,by simp[hl],fs,hl,Or.inr ⟨g,hB g rfl,rfl,fun j c hj=>?_⟩,hsub⟩;have hjl:j<fs.length:=(tP.1 hj).1;have q:∀i,i<4->w.cell? ⟨g,j*4+i,none⟩=(KL c)[i]?:=fun i hi=>by
   rw[hown.cellAt _ (by omega)];exact Ul fs j c i hj hi
  exact⟨q 0 (by omega),q 1 (by omega),q 2 (by omega),q 3 (by omega)⟩
theorem jA{T:TypeId}{sh:Nat}{wr X:World}{B0 lo k:Nat}{fs:List FV}{l:List RV}{aL:Option Addr}{cL:Nat}(hown:wr.ownsRow B0 T 4 (.slice aL fs.length cL) fs.length (fs.flatMap KL))(hl:fs.length=l.length)
 (hsub:∀(i:Nat) (x:FV) (r:RV),fs[i]?=some x->l[i]?=some r->AX wr (fun g=>B0<=g/\g<wr.heap.size/\(Value.slice aL fs.length cL).ownBlock≠some g) k x r)
 (hlo:lo<=B0) (hc:∀g,B0<=g->∀o,X.cell? ⟨g,o,none⟩=wr.cell? ⟨g,o,none⟩) (hX:wr.heap.size<=X.heap.size):
 AX X (fun g=>lo<=g/\g<X.heap.size) (k+1) ⟨sh,0,⟨#[]⟩,aL,fs.length,cL⟩ (.mk sh 0 ⟨#[]⟩ l):=by
 obtain⟨a,c,e,h⟩:=sW (B:=fun g=>B0<=g/\g<wr.heap.size) (k:=k) hown hl (fun i x r hx hr=>(hsub i x r hx hr).frame (fun _ _ _=>rfl) (fun g hg=>⟨hg.1,hg.2.1⟩)) (fun g hg=>by
  rcases hown.2 with⟨hv,_⟩|⟨g',cap,cur,hv,hg',hh,_⟩
  ·injection hv with h1 _ _;subst h1;cases hg
  ·cases hv;cases hg
   exact⟨hg',Ab hh⟩)
 cases e;exact h.frame (fun g hg o=>hc g hg.1 o) (fun g hg=>⟨by omega,by omega⟩)
theorem mG{a b c d:Value}(h1:a.oneCell'=true)(h2:b.oneCell'=true)(h3:c.oneCell'=true)(h4:d.oneCell'=true):∀u∈[a,b,c,d],u.oneCell'=true:=by
 intro u hu;simp at hu;rcases hu with rfl|rfl|rfl|rfl<;>assumption
theorem mM{w:World}{base n size N:Nat}{e:TypeId}{v:Value}{xs:List Value}(ho:w.ownsRow base e size v n xs)(h:N<base):v.ownBlock≠some N:=by
 rcases ho.2 with⟨x,_⟩|⟨g,cap,cur,hv,hg,hh,r⟩
 ·rw[x];intro e;cases e
 ·rw[hv];intro e;have e':g=N:=tY e;omega
theorem KV{w:World}{base n size:Nat}{e:TypeId}{v:Value}{xs:List Value}(ho:w.ownsRow base e size v n xs)(k:Nat)(h:v.ownBlock=some k):k<w.heap.size:=by
 rcases ho.2 with⟨x,_⟩|⟨g,cap,cur,hv,hg,hh,r⟩
 ·rw[x]at h;cases h
 ·rw[hv]at h
  have e':g=k:=tY h;rw[<-e'];exact Ab hh
theorem LV{w:World}{base n size:Nat}{e:TypeId}{v:Value}{xs:List Value}(ho:w.ownsRow base e size v n xs)(k:Nat)(h:v.ownBlock=some k):base<=k:=by
 rcases Nat.lt_or_ge k base with q|q
 ·exact absurd h (mM ho q)
 ·exact q
theorem bA{w X:World}(h:vE w X)(o:Obj):vE w (X.alloc o):=h.alloc h.size _
theorem bS{w X:World}(h:vE w X)(a:Addr)(ha:w.heap.size<=a.block)(v:Value):vE w (X.setCell a v):=h.setCell ha _
theorem bT{w X Y:World}(h:vE w X)(k:vE X Y):vE w Y:=h.trans (k.mono h.size)
theorem bK{w X Y:World}{b:Nat}(h:vE w X)(k:Ag b X Y)(hb:w.heap.size<=b):vE w Y:=h.trans (k.below hb h.size)
def JA(x:vD):Bool:=MS (Bg 1603 0 (Af x)).2
def Dk(x:vD):RV:=(Bg 1603 0 (Af x)).1
end Go.Proofs.YtadneapobijejaaGreatDoor
