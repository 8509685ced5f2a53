import Derived.Test.YtogdodlibkckkaaGreatDoorZ47
import Derived.Deep.RegionHeld3
import Derived.Laws.MakeOwn
namespace Go.Proofs.YtogdodlibkckkaaGreatDoor
set_option maxHeartbeats 20000000
set_option maxRecDepth 100000
open Go.RowKit Tryz
theorem ACU(l:List yF)(x:yF):Af l x<0↔x∉l:=
 ⟨jI,fun a=>by unfold Af;rw[Kk l x 0 (fun y b e=>a (e▸b))];decide⟩
theorem ACx(objs:List yF):∀(ys:List AY) (b:List AE),GQ objs b ys=true↔(∀y∈ys,0<=Af objs y.1/\LZ y.1 y.2.1=true)/\(ys.map (fun y=>y.2.1)).Nodup/\∀y∈ys,y.2.1∉b.map AE.id
 |[],b=>by simp[GQ]
 |y::ys,b=>by
  rw[GQ,xQ,ACx objs ys];unfold Jy;simp only[xQ,xK,ACU,xY,List.map_cons,List.map_nil,List.nodup_cons,yE,yD,List.not_mem_nil,or_false,not_or,forall_eq_or_imp];constructor
  ·rintro⟨⟨d,f,g⟩,h,i,c⟩
   exact⟨⟨⟨d,g⟩,h⟩,⟨fun j=>by obtain⟨z,a,e⟩:=List.mem_map.1 j;exact(c z a).2 e,i⟩,f,fun z a=>(c z a).1⟩
  ·rintro⟨⟨⟨d,g⟩,h⟩,⟨j,i⟩,f,c⟩
   exact⟨⟨d,f,g⟩,h,i,fun z a=>⟨c z a,fun e=>j (List.mem_map.2 ⟨z,a,e⟩)⟩⟩
def ACt(c:Be)(ys:List AY):yF->yF->Bool:=DS c.objs (c.ifs.map At.name) (c.uns.map Aw.name) c.uns (ys.map (qz (c.objs.map Aq.name)))
theorem ACQ(c:Be)(ys:List AY):Ij c ys=true↔ys.length<=200/\(∀y∈ys,0<=Af (c.objs.map Aq.name) y.1/\LZ y.1 y.2.1=true)/\(ys.map (fun y=>y.2.1)).Nodup/\∀y∈ys,Hf (ACt c ys) c.objs y=true:=by
 unfold Ij Lt;simp only[xQ,xK,ACx,xP,List.map_nil,List.not_mem_nil,not_false_iff,implies_true,and_true];exact⟨fun a=>⟨a.1,a.2.1.1,a.2.1.2,a.2.2⟩,fun a=>⟨a.1,⟨a.2.1,a.2.2.1⟩,a.2.2.2⟩⟩
theorem ACi{α β:Type}{f:α->β}:∀{l:List α},(l.map f).Nodup->∀{a b:α},a∈l->b∈l->f a=f b->a=b
 |[],_,_,_,g,_,_=>by simp at g
 |x::l,c,a,b,d,hb,e=>by
  rw[List.map_cons,List.nodup_cons]at c;rcases yE.1 d with rfl|d<;>rcases yE.1 hb with rfl|hb;all_goals first|rfl|exact ACi c.2 d hb e|exact absurd (List.mem_map.2 ⟨_, ‹_∈l›,e⟩) c.1|exact absurd (List.mem_map.2 ⟨_, ‹_∈l›,e.symm⟩) c.1
def ADU(c:Be)(a t:yF):Bool:=match c.objs[(Af (c.objs.map Aq.name) a).toNat]? with
 |some o=>!(o.name.toList==[81,117,101,114,121])&&AW o c.uns t
 |none=>false
theorem ADV{c:Be}{ys:List AY}(p:(ys.map (fun y=>y.2.1)).Nodup)(t id:yF):ACt c ys t id=true↔¬AB (c.objs.map Aq.name) (c.ifs.map At.name) (c.uns.map Aw.name) t<=1/\∀y∈ys,y.2.1=id->ADU c y.1 t=true:=by
 unfold ACt DS;have n:(ys.map (qz (c.objs.map Aq.name))).map AE.id=ys.map (fun y=>y.2.1):=by rw[List.map_map];rfl
 rw[n];by_cases b:AB (c.objs.map Aq.name) (c.ifs.map At.name) (c.uns.map Aw.name) t<=1
 ·rw[xH b];simp[b]
 rw[xG b];by_cases a:Af (ys.map (fun y=>y.2.1)) id<0
 ·rw[xH a]
  rw[ACU]at a;exact⟨fun _=>⟨b,fun y d e=>absurd (List.mem_map.2 ⟨y,d,e⟩) a⟩,fun _=>rfl⟩
 rw[xG a];obtain⟨j,y,m,d,i,_⟩:=Cu (fun y:AY=>y.2.1) ys id a;rw[m,xS,xI,d];have k:=wT d;have l:∀z∈ys,z.2.1=id->z=y:=fun z h f=>ACi p h k (f.trans i.symm);simp only[Option.map_some];show ADU c y.1 t=true↔_;exact⟨fun g=>⟨b,fun z h f=>by rw[l z h f];exact g⟩,fun g=>g.2 y k i⟩
theorem ADG{R f:yF->yF->Bool}(d:∀c s,R c s=true->f c s=true):∀(t:Bv) (v:RV),Dh R t v=true->Dh f t v=true
 | .one c _,.mk sh n s l,q=>by
   rw[Dh]at q⊢;split
   ·rfl
   ·rename_i e
    rw[xG e]at q;split
    ·rename_i a;rw[xH a]at q;exact q
    ·rename_i a
     rw[xG a]at q;split
     ·rename_i b;rw[xH b]at q;exact d _ _ q
     ·rename_i b;rw[xG b]at q;exact q
 | .list t _,.mk sh n s l,q=>by
   rw[Dh]at q⊢;split
   ·rfl
   ·rename_i e
    rw[xG e]at q;split
    ·rename_i a
     rw[xH a,xP]at q;rw[xP];exact fun v g=>ADG d t v (q v g)
    ·rename_i a
     rw[xG a]at q;split
     ·rename_i b;rw[xH b]at q;exact d _ _ q
     ·rename_i b;rw[xG b]at q;exact q
theorem AEV{R j:yF->yF->Bool}(m:∀c s,R c s=true->j c s=true)(l:List Am){k cs:List IN}(hs:k.Sublist cs):∀{g f:List yF},(∀n∈g,n∈f)->Ks R l f cs=true->Ks j l g k=true:=by
 induction hs with
 |slnil=>intro g f _ _;rfl
 |cons a _ i=>
  intro g f h q;rw[Ks,xQ]at q;exact i (fun n d=>List.mem_append_left _ (h n d)) q.2
 |cons_cons a _ i=>
  intro g f h q;rw[Ks,xQ]at q⊢;refine⟨?_,i (fun n d=>?_) q.2⟩
  ·have b:=q.1
   unfold Kh at b⊢;split at b
   ·simp only[xQ,xK,ACU]at b⊢
    exact⟨b.1,b.2.1,fun d=>b.2.2.1 (h _ d),b.2.2.2.1,ADG m _ _ b.2.2.2.2⟩
   ·cases b
  ·rcases yD.1 d with e|e
   ·exact List.mem_append_left _ (h n e)
   ·exact List.mem_append_right _ e
theorem AEr{c:Be}{ys d:List AY}(k:Ij c ys=true)(u:d.length<=200)(a:(d.map (fun y=>y.2.1)).Nodup)(i:∀z∈d,∃y∈ys,z.1=y.1/\z.2.1=y.2.1/\z.2.2.Sublist y.2.2):Ij c d=true:=by
 rw[ACQ]at k⊢;obtain⟨_,p,r,s⟩:=k;refine⟨u,fun z g=>?_,a,fun z g=>?_⟩
 ·obtain⟨y,h,f,j,_⟩:=i z g
  rw[f,j];exact p y h
 ·obtain⟨y,h,f,j,l⟩:=i z g
  have b:=s y h;unfold Hf at b⊢;rw[f];split at b
  ·rename_i o B
   refine AEV (fun t id q=>?_) o.fields l (fun n a=>a) b;rw[ADV r]at q;rw[ADV a];refine⟨q.1,fun w A e=>?_⟩;obtain⟨v,x,f1,m,_⟩:=i w A;rw[f1];exact q.2 v x (m.symm.trans e)
  ·cases b
theorem ACb{objs:List Aq}{ys:List AY}(g:(ys.map (fun y=>y.2.1)).Nodup){y:AY}(b:y∈ys):Fl (BC objs ys) y.2.1=some (FO objs y):=by
 unfold Fl;rw[YA];have a:¬Af (ys.map (fun y=>y.2.1)) y.2.1<0:=by rw[ACU];exact fun d=>d (List.mem_map.2 ⟨y,b,rfl⟩)
 rw[xG a];obtain⟨j,z,f,c,e,_⟩:=Cu (fun y:AY=>y.2.1) ys y.2.1 a;have:z=y:=ACi g (wT c) b e;subst this;rw[f,xS];unfold BC;rw[xI,c];rfl
theorem ACT{objs:List Aq}{ys:List AY}{id:yF}(a:id∉ys.map (fun y=>y.2.1)):Fl (BC objs ys) id=none:=by
 unfold Fl;rw[YA,xH ((ACU _ _).2 a)]
theorem AFr{objs:List Aq}{ys e:List AY}(c:(ys.map (fun y=>y.2.1)).Nodup)(b:ys.Perm e):Fl (BC objs ys)=Fl (BC objs e):=by
 funext id;by_cases a:id∈ys.map (fun y=>y.2.1)
 ·obtain⟨y,d,rfl⟩:=List.mem_map.1 a
  rw[ACb c d,ACb ((b.map _).nodup_iff.1 c) (b.mem_iff.1 d)]
 ·rw[ACT a,ACT (fun q=>a ((b.map _).mem_iff.2 q))]
theorem AGN{x:yF}{ys a:List AY}(f:(ys.map (fun y=>y.2.1)).Nodup)(g:ys.Perm a)(role vid qt vt:yF)(b:Int):Ft x ys role vid qt vt b=Ft x a role vid qt vt b:=by
 have e:=AFr (objs:=(Ao (Ad x)).1.objs) f g;have c:∀roles Q o,Ud (Ao (Ad x)).1 (BC (Ao (Ad x)).1.objs ys) roles vid Q b o=Ud (Ao (Ad x)).1 (BC (Ao (Ad x)).1.objs a) roles vid Q b o:=by
  intro roles Q o;cases o with
  |none=>rfl
  |some l=>
   unfold Ud DH Cc;have d:Ej (Ao (Ad x)).1.objs roles vid (BC (Ao (Ad x)).1.objs ys)=Ej (Ao (Ad x)).1.objs roles vid (BC (Ao (Ad x)).1.objs a):=by
    funext id;unfold Ej;rw[e]
   rw[d,e]
 unfold Ft MT;rw[c]
theorem AFY{x:yF}{ys:List AY}(a:Eo x ys=0):(ys.map (fun y=>y.2.1)).Nodup:=((ACQ _ _).1 (Yr a).2).2.2.1
theorem AGL{x:yF}{ys c:List AY}(b:Eo x ys=0)(a:ys.Perm c):Eo x c=0:=by
 obtain⟨d,hs⟩:=Yr b;unfold Eo;have e:=((ACQ _ _).1 hs).1;rw[xH d,xH (AEr hs (by rw[<-a.length_eq];exact e) ((a.map _).nodup_iff.1 (AFY b)) (fun z f=>⟨z,a.mem_iff.2 f,rfl,rfl,List.Sublist.refl _⟩))]
theorem AFF{x:yF}{ys c:List AY}(b:Eo x ys=0)(a:c.Sublist ys):Eo x c=0:=by
 obtain⟨d,hs⟩:=Yr b;unfold Eo;have e:=((ACQ _ _).1 hs).1;rw[xH d,xH (AEr hs (wV a.length_le e) ((AFY b).sublist (a.map _)) (fun z f=>⟨z,a.subset f,rfl,rfl,List.Sublist.refl _⟩))]
theorem swap_perm{α:Type}(l:List α)(i k:Nat)(a b:α)(f:l[i]?=some a)(h:l[k]?=some b):((l.set i b).set k a).Perm l:=by
 obtain⟨g,d⟩:=wU.1 f;obtain⟨m,e⟩:=wU.1 h;have:=Array.swap_perm (xs:=l.toArray) (i:=i) (j:=k) (by simpa using g) (by simpa using m);have c:=this.toList;simp[d,e]at c;exact c
open Go.Maps Tryz
def AEI(cs:Array Value):Prop:=∀(i:Nat) (s:yF),cs[i]?≠some (.string s)
section
variable {w w':World} {V:Nat} {cs:Array Value} {fr:Nat×Nat}
theorem ADz(hk:Ag V w w'){g o:Nat}{v:Value}(b:w.cell? ⟨g,o,none⟩=some v)(c:g≠V):w'.cell? ⟨g,o,none⟩=some v:=by
 rw[<-b];exact World.cell?_of_block (a:=⟨g,o,none⟩) (hk.block g (wW w _ b) c)
theorem AEI.ne{T:TypeId}(hV:w.heap[V]?=some (.cells cs T fr))(hm:AEI cs){g o:Nat}{s:yF}(a:w.cell? ⟨g,o,none⟩=some (.string s)):g≠V:=by
 rintro rfl;rw[Ac hV]at a;exact hm o s a
variable (hk:Ag V w w') (hV:w.heap[V]?=some (.cells cs 78 fr)) (hm:AEI cs)
include hk hV hm
theorem Cn.srv{g o:Nat}{f:Am}{u:Value}(a:Cn w g o f u):Cn w' g o f u:=by
 have b:=AEI.ne hV hm a.c0;exact⟨ADz hk a.c0 b,ADz hk a.c1 b,ADz hk a.c2 b,ADz hk a.c3 b,ADz hk a.c4 b,ADz hk a.c5 b⟩
theorem Gn.srv{v:Value}{l:List BU}(h:Gn w v l):Gn w' v l:=by
 obtain⟨a,cap,k,m,n⟩:=h;refine⟨a,cap,k,m,n.imp (fun e=>e) ?_⟩;rintro⟨g,s,p,b⟩;refine⟨g,s,p,fun j c f=>⟨fun i d=>?_,((b j c f).2).srv hk hV hm⟩⟩;have q:=(b j c f).1;have r:g≠V:=AEI.ne hV hm (q 1 (by omega));have e:=q i d;rw[wS (by show i<6;exact d)]at e⊢;exact ADz hk e r
theorem Ba.srv:∀{k:Nat} {v:FV} {t:RV},Ba w (fun g=>g<w.heap.size) k v t->Ba w' (fun g=>g<w'.heap.size) k v t
 |0,_,.mk ..,d=>d
 |k+1,v,.mk sh n s l,d=>by
  obtain⟨e,h,m,p,fs,q,a,u⟩:=d;refine⟨e,h,m,p,fs,q,?_,fun i f r y B=>Ba.srv (u i f r y B)⟩;rcases a with a|⟨g,z,x,a⟩
  ·exact Or.inl a
  ·refine Or.inr ⟨g,xA z hk.size,x,fun j c A=>?_⟩
   obtain⟨c0,c1,c2,c3⟩:=a j c A;have b:=AEI.ne hV hm c2;exact⟨ADz hk c0 b,ADz hk c1 b,ADz hk c2 b,ADz hk c3 b⟩
theorem GN.srv{T:Nat}{c:Be}{ys:List AY}(M:GN w T c ys):GN w' T c ys:=by
 obtain⟨S,L,ah,ag,ae,ai,af,H,G,F,I,d,aa,Z,Y,ab,Q,P⟩:=M.ex;obtain⟨J,B,vL,ad,h,N,O⟩:=P.ex;have st:∀(f:TypeId) (B':Nat),78≠f->Ap f B' w w':=fun f B' e=>Ap.of_keep hk hV e;have t:∀z,Ek z w w':=fun z=>⟨st _ _ (by decide),st _ _ (by decide),st _ _ (by decide),st _ _ (by decide),st _ _ (by decide)⟩;have A:∀{k:Nat} {p:Array Value} {f:TypeId} {s:Nat×Nat},w.heap[k]?=some (.cells p f s)->78≠f->w'.heap[k]?=some (.cells p f s):=fun{k p f s} a e=>st f 0 e k p s (wZ _) a;refine⟨S,L,ah,ag,ae,ai,af,H,G,F,I,⟨A d.sc (by decide),d.r.stays (st _ _ (by decide)) (fun x g=>DP.stays (t _) g),d.o.stays (st _ _ (by decide)) (fun x g=>DO.stays (t _) g),d.i.stays (st _ _ (by decide)) (fun x g=>DN.stays (t _) g),d.u.stays (st _ _ (by decide)) (fun x g=>DQ.stays (t _) g),CE d.n (st _ _ (by decide)),d.lr,d.lo,d.li,d.lu,d.ln⟩,aa,Z,Y,ab,Q,⟨J,B,vL,ad,⟨A h.b (by decide),CE h.r (st _ _ (by decide)),?_,h.n,h.l⟩,N,fun j r y W X=>?_⟩⟩
 ·obtain⟨D,C,K⟩:=h.m
  refine⟨D,World.ownsMap.kept C (row:=some V) ⟨hk.os,hk.tape,hk.output,hk.size,fun i R U=>hk.block i R (fun e=>U (by rw[e]))⟩ (fun e=>?_),K⟩;obtain⟨es,clock,hb,_⟩:=C;rw[xD e,hV]at hb;cases hb
 ·have q:=O j r y W X
  exact⟨q.k,q.id,q.c.srv hk hV hm,q.a,fun c E=>⟨(q.v c E).1.srv hk hV hm,(q.v c E).2⟩⟩
end
def AEK(l:List BU):List IN:=l.map (fun c=>(c.f.name,c.t))
theorem AGW(w:World)(v:Value):Calls prog 82 #[v] w fun e w'=>e=.returned (.bool true)/\w'=w:=by
 go_enter func82,ntmps82;go_wp2;go_ret;exact⟨rfl,rfl⟩
theorem info38:(prog.info? 38).map (fun i=>(i.zero,i.size,i.bytes))=some (some (.agg #[.string ⟨#[]⟩,.string ⟨#[]⟩,.slice none 0 0]),3,56):=by kernel_rfl
theorem info41:(prog.info? 41).map (fun i=>(i.zero,i.size,i.bytes))=some (some (.agg #[.string ⟨#[]⟩,.string ⟨#[]⟩]),2,32):=by kernel_rfl
theorem AEW{a b c:Value}(e:a.oneCell'=true)(f:b.oneCell'=true)(g:c.oneCell'=true):∀u∈[a,b,c],u.oneCell'=true:=by
 intro u d;simp at d;rcases d with rfl|rfl|rfl<;>assumption
theorem AEY{w:World}{base n size N:Nat}{e:TypeId}{v:Value}{xs:List Value}(a:w.ownsRow base e size v n xs)(j:N<base)(i:Nat)(u:Value):(w.setCell ⟨N,i,none⟩ u).ownsRow base e size v n xs:=by
 refine⟨a.1,?_⟩;rcases a.2 with h|⟨g,cap,b,f,c,d,r⟩
 ·exact Or.inl h
 ·refine Or.inr ⟨g,cap,b,f,c,?_,r⟩
  rw[xC _ _ _ _ (show g≠N from by omega)];exact d
theorem AGX{W:World}{g o O k:Nat}{nm q:yF}(V:Value)(l:List BU)(P:W.cell? ⟨g,o,none⟩=some (.pointer (some ⟨O,k,none⟩)))(aj:W.cell? ⟨g,o+1,none⟩=some (.string q))(Q:W.cell? ⟨O,k,none⟩=some (.string nm))(z:W.cell? ⟨g,o+2,none⟩=some V)(L:Gn W V l)(aU:l.length<=1000000):
 Calls prog 38 #[.pointer (some ⟨g,o,none⟩),.func (Fn.func 82) #[] #[]] W fun e w'=>∃r,e=.returned (.agg #[.string nm,.string q,r])/\w'.ownsRow W.heap.size 41 2 r (AEK l).length ((AEK l).flatMap flC)/\(AEK l).length<=l.length/\yG W w':=by
 have aA:=L;obtain⟨aH,aI,rfl,_⟩:=aA;obtain⟨aD,aq,aE,aF,aG⟩:=info_parts info41;have ap:=wW W _ P;have am:=wW W _ Q;have ae:=Aa L;clear L;go_enter func38,ntmps38;go_wp2;go_cut [5] (fun v5 wc=>v5=.pointer (some ⟨W.heap.size+1,0,none⟩)/\wc.heap[W.heap.size+1]?=some (.cells #[.string nm,.string q,.slice none 0 0] 38 (0,0))/\yG W wc/\wc.heap[W.heap.size]?=some (.cells #[.string ⟨#[]⟩,.string ⟨#[]⟩,.slice none 0 0] 38 (0,0)))
 case first=>
  go_region;all_goals(try go_wp2_with fail)
  all_goals(go_meet)
  obtain⟨af,ag⟩:=Ox W (.cells #[.string ⟨#[]⟩,.string ⟨#[]⟩,.slice none 0 0] 38) (.cells #[.string nm,.string q,.slice none 0 0] 38);exact⟨rfl,ag,(bA (bA (wR _ _) _) _).drew,af⟩
 case rest=>
  obtain⟨rfl,H,hb,x⟩:=hcut;have R:=Ab H;have ab:=Aa H;have Z:=Aa hb;have X:=Aa x;have z:=Ah hb z;have ap:g<wc.heap.size:=wW wc _ z;obtain⟨b,rfl⟩:∃b:World,b=wc:=⟨_,rfl⟩;clear H hb x P aj Q am;go_wp2;go_loopg [7,27] l.length (fun m v7 v27 wr=>∃(i:Nat) (r:Value) (cs:List IN),v27=.int .i64 i/\i<=l.length/\l.length-i<=m/\wr.heap[W.heap.size+1]?=some (.cells #[.string nm,.string q,r] 38 (0,0))/\wr.ownsRow b.heap.size 41 2 r cs.length (cs.flatMap flC)/\cs.length<=i/\cs=AEK (l.take i)/\yG W wr/\b.heap.size<=wr.heap.size/\wr.heap[W.heap.size]?=some (.cells #[.string ⟨#[]⟩,.string ⟨#[]⟩,.slice none 0 0] 38 (0,0)))
  case atStart=>exact⟨0,_,[],rfl,wZ _,wQ _,ab.o,xF _ _ _ _,wQ _,rfl,Z.o,wQ _,X.o⟩
  case round=>
   obtain⟨i,r,cs,rfl,aT,aX,I,K,ak,A,hb,aY,x⟩:=hrel;obtain⟨D,E,aC⟩:=An K;subst aC;have N:=Aa I;have av:=Ab I;have w:=Aa K;have M:=Aa A;have C:=Aa hb;have u:=Aa x;clear I K A hb x z;by_cases aw:i<l.length
   ·obtain⟨c,S⟩:∃c,l[i]?=some c:=⟨_,wS aw⟩
    obtain⟨ai,a0,e,c0,c1,c2,c3,c4,ah,T⟩:=(ae.o.below C.o).at S;subst e;have al:ai<wr.heap.size:=wW wr _ c0;have F:=T.c0;have ao:c.g<wr.heap.size:=wW wr _ F;have aa:=Aa (show AEK (l.take (i+1))=cs++[(c.f.name,c.t)]from by
     rw[xL,S,M.o];unfold AEK;rw[xY];rfl)
    clear T;go_wp2_with fail;refine(AGW _ _).mono ?_;rintro _ _ ⟨rfl,rfl⟩;have h:yG wr (wr.alloc (.cells #[.pointer (some ⟨c.g,c.o,none⟩),.string c.t,.int .i64 c.c.sh,.int .i64 c.c.n,.string c.c.s,.slice c.c.la c.c.ln c.c.lc] 159)):=bA (wR _ _) _;have J:=wX wr (.cells #[.pointer (some ⟨c.g,c.o,none⟩),.string c.t,.int .i64 c.c.sh,.int .i64 c.c.n,.string c.c.s,.slice c.c.la c.c.ln c.c.lc] 159);generalize wr.alloc (.cells #[.pointer (some ⟨c.g,c.o,none⟩),.string c.t,.int .i64 c.c.sh,.int .i64 c.c.n,.string c.c.s,.slice c.c.la c.c.ln c.c.lc] 159)=a at*;have y:=Aa ((h.block _ av).trans N.o);have U:=Ab y.o;have Y:=Aa ((h.block _ (Ab u.o)).trans u.o);have ad:=Aa (AT w.o h);have d:=Aa (bT C.o h);have aZ:=h.size;have aL:=Ac J;have aW:=Ab J;have F:=Ah h F;have ao:c.g<a.heap.size:=by omega
    clear c0 c1 c2 c3 c4 ah al h J;have ax:Option.some (W.heap.size+1)≠(Value.slice D cs.length E).ownBlock:=fun e=>pP w.o R e.symm;have ay:Option.some W.heap.size≠(Value.slice D cs.length E).ownBlock:=fun e=>pP w.o (show W.heap.size<b.heap.size by omega) e.symm;have aR:cs.length<=1000000:=by omega
    have aK:=Ac y.o;have aP:=Ak y.o;go_wp2;go_region_law (first|(refine step_append_lies _ (by rfl) _ _ _ (by rfl) b.heap.size 41 aD _ 2 32 underlying36 aq aE aF aG rfl (by decide) _ _ _ (by rfl) (AT ad.o (by repeat' with_reducible first|exact wR _ _|refine bA ?_ _|refine Below.drew ?_)) ⟨a.heap.size,0,none⟩ 1 1 [.string c.f.name,.string c.t] (by rfl) (by rfl) (Cz _ _ _ _ (by simp)) (Sm rfl rfl) (by decide) (by unfold maxLen;omega) (by omega) (by simp;omega) (a.heap.size+1) (by simp) ?_;intro g cap w5 az p aQ aS;have G:=(p.block (W.heap.size+1) (by simp;omega) ax).trans ((by first|exact(bA (wR a.heap.size a) _).block _ U|exact(bA (wR a.heap.size a) _).drew.block _ U:_=a.heap[W.heap.size+1]?).trans y.o);have aM:=Ac G;have aO:=Ak G));all_goals(try go_wp2_with fail)
    all_goals(
     have aB:=p.size;simp at aB;go_roundg (l.length-(i+1))
     case measure=>omega
     case rel=>
      refine⟨i+1,_,cs++[(c.f.name,c.t)],by go_num,by omega,wQ _,AI G 2 _,?_,by simp;omega,aa.o.symm,?_,by simp[World.setCell];omega,?_⟩
      ·rw[xJ,List.flatMap_append]
       exact AEY az R 2 _
      ·exact⟨p.os.trans d.o.os,p.tape.trans d.o.tape,p.output.trans d.o.output,by have:=d.o.size;simp[World.setCell];omega,fun j au=>(xC _ _ _ _ (show j≠W.heap.size+1 by omega)).trans ((p.block j (by have:=d.o.size;simp;omega) (fun e=>pP w.o (show j<b.heap.size by omega) e.symm)).trans ((by first|exact(bA (wR a.heap.size a) _).block _ (by have:=d.o.size;omega)|exact(bA (wR a.heap.size a) _).drew.block _ (by have:=d.o.size;omega):_=a.heap[j]?).trans (d.o.block j au)))⟩
      ·exact(xC _ _ _ _ (show W.heap.size≠W.heap.size+1 by omega)).trans ((p.block W.heap.size (by simp;omega) ay).trans ((by first|exact(bA (wR a.heap.size a) _).block _ (by omega)|exact(bA (wR a.heap.size a) _).drew.block _ (by omega):_=a.heap[W.heap.size]?).trans Y.o)))
   ·have ar:i=l.length:=by omega
    subst ar;have aJ:=Ac N.o;have c4:=Ac u.o;have aN:=Ak u.o;have aV:=Ab u.o;go_wp2_with fail;have A:cs=AEK l:=by rw[M.o,List.take_length]
    subst A;refine bodyPost_ret (v:=.agg #[.string nm,.string q,.slice D (AEK l).length E]) (by simp[results,results38,go_sem, *]) rfl ⟨_,rfl,?_,ak,?_⟩
    ·refine FE (B:=b.heap.size) ?_ (by omega)
     repeat' with_reducible first|exact w.o|refine IE ?_ (show _<b.heap.size by omega) _ _
    ·repeat' with_reducible first|exact C.o|refine bS ?_ _ (wQ _) _
structure AEq(w:World)(gR j:Nat)(y:AY):Prop where
 ex:∃(gO k:Nat) (vC:Value) (l:List BU),w.cell? ⟨gR,j*3,none⟩=some (.pointer (some ⟨gO,k,none⟩))/\w.cell? ⟨gR,j*3+1,none⟩=some (.string y.2.1)/\w.cell? ⟨gR,j*3+2,none⟩=some vC/\w.cell? ⟨gO,k,none⟩=some (.string y.1)/\Gn w vC l/\l.length<=1000000/\AEK l=y.2.2
theorem AEq.below{w w':World}{a j:Nat}{y:AY}(c:AEq w a j y)(hb:yG w w'):AEq w' a j y:=by
 obtain⟨b,k,n,l,d,e,f,g,h,i,m⟩:=c;exact⟨b,k,n,l,Ah hb d,Ah hb e,Ah hb f,Ah hb g,h.below hb,i,m⟩
theorem GN.told{w:World}{T:Nat}{c:Be}{ys:List AY}(K:GN w T c ys)(Q:∀y∈ys,0<=Af (c.objs.map Aq.name) y.1)(O:∀y∈ys,y.2.2.length<=1000000):
 ∃a cap u v,w.heap[T]?=some (.cells #[.slice a ys.length cap,u,v] 67 (0,0))/\ys.length<=201/\(ys=[]\/∃h,a=some ⟨h,0,none⟩/\∀j y,ys[j]?=some y->AEq w h j y):=by
 obtain⟨S,t,aq,ap,am,ar,ao,aa,p,Z,ab,X,ak,F,aj,al,⟨kO,P⟩,M⟩:=K.ex;obtain⟨ad,B,vL,n,d,i,L⟩:=M.ex;obtain⟨a,cap,rfl⟩:=An d.r;refine⟨a,cap,_,_,by rw[<-i];exact d.b,by rw[<-i];exact d.l,?_⟩;cases z:n with
 |nil=>left;rw[z]at i;exact xE i.symm
 |cons q0 qr=>
  obtain⟨h,ae,G, -⟩:=d.at (show n[0]?=some q0 by rw[z];rfl);have s:=(Value.slice.inj G).1;refine .inr ⟨h,s,fun j y m=>?_⟩;obtain⟨r,A⟩:∃r,n[j]?=some r:=⟨_,wS (by have:=(wU.1 m).1;omega)⟩;have g:=L j r y A m;obtain⟨ai,af,H,c0,c1,c2⟩:=d.at A;have J:=(Addr.mk.inj (xD (s.symm.trans (Value.slice.inj H).1))).1;subst J;obtain⟨E,o,R,W,V,U⟩:=Cu Aq.name c.objs y.1 (by have:=Q y (wT m);omega);have C:r.k=E:=by rw[g.k,R];exact xS E
  obtain⟨x,D⟩:∃x,p[r.k]?=some x:=⟨_,wS (by rw[C,<-xT (f:=Prod.fst),F];exact U)⟩;have Y:x.1.name=y.1:=by
   have:(p.map Prod.fst)[r.k]?=some x.1:=by rw[xI,D];rfl
   rw[F,C,W]at this;rw[<-xD this];exact V
  obtain⟨ah,ag,q,N⟩:=X.o.cell (fun _=>rfl) r.k x D;rw[P]at q;have I:=(Addr.mk.inj (xD (Value.slice.inj q).1)).1;subst I;have c3:w.cell? ⟨t,r.k*4,none⟩=some (.string x.1.name):=by simpa using N 0 _ rfl
  refine⟨t,r.k*4,r.v,r.cs,c0,by rw[<-g.id];exact c1,c2,by rw[<-Y];exact c3,g.c,?_,g.a.e⟩;have:=O y (wT m);rw[<-g.a.e,xT]at this;exact this
def AFk(w:World)(ys:List AY)(e:Ending)(w':World):Prop:=∃(a:Value) (xs:List AFJ),e=.returned a/\w'.ownsRow w.heap.size 38 3 a xs.length (xs.flatMap ACG)/\(∀x∈xs,w'.ownsRow w.heap.size 41 2 x.2 x.1.2.2.length (x.1.2.2.flatMap flC))/\xs.map (·.1)=ys/\yG w w'
theorem AFX{w:World}{B n size g:Nat}{e t:TypeId}{v:Value}{xs:List Value}{cs:Array Value}{c:Nat×Nat}(d:w.ownsRow B e size v n xs)(f:w.heap[g]?=some (.cells cs t c))(h:e≠t):v.ownBlock≠some g:=by
 intro a;rcases d.2 with⟨rfl,_⟩|⟨j,c1,i,rfl,_,b,_⟩
 ·simp[Value.ownBlock]at a
 ·simp[Value.ownBlock]at a;subst a;rw[f]at b;cases b;exact h rfl
theorem AGV{α:Type}:∀(l:List α) (i:Nat) (a b c:α),i*3+3<=l.length->(((l.set (i*3) a).set (i*3+1) b).set (i*3+2) c).take ((i+1)*3)=l.take (i*3)++[a,b,c]:=by
 intro l i a b c f;refine List.ext_getElem? (fun j=>?_);rw[List.getElem?_take];by_cases d:j<(i+1)*3
 ·rw[xH d,List.getElem?_set,List.getElem?_set,List.getElem?_set]
  by_cases e:j<i*3
  ·rw[xN (by rw[List.length_take];omega),List.getElem?_take,xH e,xG (by omega),xG (by omega),xG (by omega)]
  ·rw[xO (by rw[List.length_take];omega),List.length_take,Nat.min_eq_left (by omega)]
   have:j=i*3\/j=i*3+1\/j=i*3+2:=by omega
   rcases this with rfl|rfl|rfl
   ·rw[xG (by omega),xG (by omega),xH rfl,xH (by omega)];simp
   ·rw[xG (by omega),xH rfl,xH (by simp;omega)];simp
   ·rw[xH rfl,xH (by simp;omega)];simp
 ·rw[xG d,List.getElem?_eq_none (by simp;omega)]
theorem AFj{w:World}{T:Nat}(ys:List AY)(a:Option Addr)(cap:Nat)(x y:Value)(p:w.heap[T]?=some (.cells #[.slice a ys.length cap,x,y] 67 (0,0)))(aQ:ys.length<=201)(v:ys=[]\/∃G,a=some ⟨G,0,none⟩/\∀j y,ys[j]?=some y->AEq w G j y):
 Calls prog 50 #[.pointer (some ⟨T,0,none⟩)] w (AFk w ys):=by
 unfold AFk;have U:=Ac p;have am:=Ab p;have aw:=Aa v;have au:=Aa p;obtain⟨al,aA,aG,aH,aI⟩:=info_parts info38;obtain⟨b,I⟩:∃b,b=madeCells (Value.agg #[.string ⟨#[]⟩,.string ⟨#[]⟩,.slice none 0 0]).cells (((ys.length:Nat):Int).toNat*al.size):=⟨_,rfl⟩;have aq:=Aa (show b.size=ys.length*3 by rw[I,size_madeCells,aH];simp);have aC:∀W:World,(Instr.makeSlice 22 (.int .i64 (ys.length:Int)) (.int .i64 (ys.length:Int))).run prog W=.ok (.slice (some ⟨W.heap.size,0,none⟩) ys.length ys.length) (W.alloc (.cells b 38)):=fun W=>by
  have V:=run_make (P:=prog) W 22 38 al _ underlying22 aA aG .i64 .i64 (ys.length:Int) (ys.length:Int) (by omega) (by omega) (by rw[aI];omega) (by omega);rw[<-I]at V;simpa using V
 clear v p I;have ar:=Aa (wX w (.cells b 38));have ao:=Aa (bA (wR w.heap.size w) (.cells b 38));go_enter func50,ntmps50;go_wp2_with fail;generalize w.alloc (.cells b 38)=aJ at*;clear U aC;go_loopg [4,16] ys.length (fun m v4 v16 wr=>∃(i:Nat) (xs:List AFJ) (c:Array Value),v16=.int .i64 i/\i<=ys.length/\ys.length-i<=m/\xs.length=i/\xs.map (·.1)=ys.take i/\wr.heap[w.heap.size]?=some (.cells c 38 (0,0))/\c.size=ys.length*3/\c.toList.take (i*3)=xs.flatMap ACG/\(∀x∈xs,wr.ownsRow w.heap.size 41 2 x.2 x.1.2.2.length (x.1.2.2.flatMap flC))/\yG w wr)
 case atStart=>exact⟨0,[],b,rfl,wZ _,wQ _,rfl,rfl,ar.o,aq.o,by simp,fun x M=>by simp at M,ao.o⟩
 case round=>
  obtain⟨i,xs,c,rfl,aO,aS,aj,ak,ag,af,t,ah,hb⟩:=hrel;have R:=Aa aj;have S:=Aa ak;have B:=Aa ag;have g:=Aa af;have A:=Aa t;have Q:=Aa ah;have n:=Aa hb;have U:=Ac ((hb.block _ am).trans au.o);have aX:T<wr.heap.size:=xA am hb.size;clear aj ak ag af t ah hb;by_cases J:i<ys.length
  ·obtain⟨r,L⟩:∃r,ys[i]?=some r:=⟨_,wS J⟩
   obtain⟨G,e,ae⟩:=aw.o.resolve_left (fun e=>by rw[e]at J;simp at J);subst e;obtain⟨aL,k,aF,l,H,X,Y,Z,aa,ab,ad⟩:=((ae i r L).below n.o).ex;have aY:=wW wr _ H;have C:=Aa (AGX aF l H X Z Y aa ab);rw[ad]at C;have av:=Aa (show ys.take (i+1)=ys.take i++[r]from by rw[xL,L];rfl);clear H X Y Z aa ab ad L ae;go_wp2_with fail;refine C.o.mono ?_;rintro _ w2 ⟨aZ,rfl,K,aM,h⟩;obtain⟨D,E,aE⟩:=An K;subst aE;have N:=Aa K;have ap:=Aa (bT n.o h);have f:=Aa ((h.block _ (Ab B.o)).trans B.o);have O:=Aa (fun x M=>AT (Q.o x M) h);have aT:=h.size;have az:=n.o.size;have aK:=Ak f.o;have aW:=Ab f.o;have s:∀j,j<3->∃u,w2.cell? ⟨w.heap.size,i*3+j,none⟩=some u:=fun j aP=>by
    rw[Ac f.o,Array.getElem?_eq_getElem (by have:=g.o;omega)];exact⟨_,rfl⟩
   obtain⟨u0,aD⟩:=s 0 (by omega);obtain⟨u1,aU⟩:=s 1 (by omega);obtain⟨u2,aV⟩:=s 2 (by omega);rw[Nat.add_zero]at aD;clear K h C s;go_wp2_with fail;have F:=AI f.o (i*3) (.string r.1);have ax:=AI F (i*3+1) (.string r.2.1);have ay:=AI ax (i*3+2) (.slice D r.2.2.length E);have ai:∀k,k≠w.heap.size->(((w2.setCell ⟨w.heap.size,i*3,none⟩ (.string r.1)).setCell ⟨w.heap.size,i*3+1,none⟩ (.string r.2.1)).setCell ⟨w.heap.size,i*3+2,none⟩ (.slice D r.2.2.length E)).heap[k]?=w2.heap[k]?:=fun k d=>(xC _ _ _ _ d).trans ((xC _ _ _ _ d).trans (xC _ _ _ _ d));have aN:=g.o;have t:=A.o;go_roundg (ys.length-(i+1))
   case measure=>omega
   case rel=>
    refine⟨i+1,xs++[(r,.slice D r.2.2.length E)],_,by go_num,by omega,wQ _,by rw[xJ,R.o];rfl,by rw[xY,S.o,av.o];rfl,ay,by simp;exact g.o,?_,fun z v=>?_,bS (bS (bS ap.o _ (wQ _) _) _ (wQ _) _) _ (wQ _) _⟩
    ·have aR:c.toList.length=ys.length*3:=by rw[Array.length_toList];exact g.o
     rw[Array.toList_setIfInBounds,Array.toList_setIfInBounds,Array.toList_setIfInBounds,List.flatMap_append,<-t];exact AGV _ _ _ _ _ (by omega)
    ·rcases yD.1 v with q|q
     ·exact So (O.o z q) (fun k d=>ai k (fun e=>AFX (O.o z q) f.o (by decide) (by rw[<-e];exact d)))
     ·simp at q;subst q
      exact FE (So N.o (fun k d=>ai k (fun e=>AFX N.o f.o (by decide) (by rw[<-e];exact d)))) az
  ·have aB:i=ys.length:=by omega
   subst aB;go_wp2;go_ret;refine⟨_,xs,rfl,?_,Q.o,by rw[S.o,List.take_length],n.o⟩;rw[R.o];refine⟨?_,.inr ⟨w.heap.size,ys.length,c,rfl,wQ _,B.o,wQ _,by unfold maxLen;omega,g.o,A.o⟩⟩;have F:c.toList.length=ys.length*3:=by rw[Array.length_toList];exact g.o
   rw[<-A.o,List.length_take,F];exact Nat.min_self _
end Go.Proofs.YtogdodlibkckkaaGreatDoor
