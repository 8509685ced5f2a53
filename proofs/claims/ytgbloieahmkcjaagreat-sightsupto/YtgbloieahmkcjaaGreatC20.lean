import Derived.Test.YtgbloieahmkcjaaGreatC19
namespace Go.Proofs.YtgbloieahmkcjaaGreat
set_option maxHeartbeats 20000000
set_option maxRecDepth 100000
open Go.RowKit Tryz
structure eG where
 Lu:List aj
 Lv:List ap
def eB(c:eG)(s:St):eG×St:=
 if nm s=oe then(⟨c.Lu++[(iq (ab s)).1],c.Lv⟩,(iq (ab s)).2)
 else if nm s=oG then(⟨c.Lu,c.Lv++[(fY (ab s)).1]⟩,(fY (ab s)).2)
 else if nm s=pF then(⟨c.Lu,c.Lv++[⟨1,nm (ab s),(gy (ab (ab s))).1,[],false,[]⟩]⟩,(gy (ab (ab s))).2)
 else if nm s=pA then(⟨c.Lu,c.Lv++[(gm (ab s)).1]⟩,(gm (ab s)).2)
 else(c,none)
def gv:Nat->eG->St->eG×St
 |0,c,s=>(c,s)
 |f+1,c,s=>if eu s=true then(c,s)else gv f (eB c s).1 (eB c s).2
def o7:St->St
 |some []=>none
 |s=>s
def iz:eG:=⟨[],[]⟩
def cE(s:St):eG×St:=gv 802 iz (o7 s)
def lW(x:Ls):Nat:=if jv (cE (av x)).2=true then(if kz (cE (av x)).1.Lu (cE (av x)).1.Lv=true then 0 else 2)else 1
theorem pR(c:eG)(c':b9)(s:St)(hl:ln s<=801):(eB c s).2=(bX c' s).2:=by
 have h1:ln (ab s)<=801:=KP (bH s) hl;have h2:ln (ab (ab s))<=801:=KP (bH _) h1;unfold eB bX;split
 ·dsimp only
  exact(Cd _ h1).1
 ·split
  ·dsimp only
   exact(ug _ h1).1
  ·split
   ·dsimp only
    exact(uL _ h2).1
   ·split
    ·dsimp only
     exact(Bs _ h1).1
    ·rfl
theorem KF(c:eG)(s:St)(hl:ln s<=801):ln (eB c s).2<=ln (ab s):=by
 rw[pR c d8 s hl];exact oF d8 s
theorem AM(f:Nat)(c:eG)(s:St)(h:eu s=true):gv f c s=(c,s):=by
 cases f with
 |zero=>rfl
 |succ f=>rw[gv,K9 h]
def oL(x:ap×Value×Value×Value):List Value:=[.int .i64 x.1.sort,.string x.1.name,x.2.1,x.2.2.1,.bool x.1.LC,x.2.2.2]
def lZ(S:Nat)(w:World)(x:aj×Value):Prop:=w.ownsRow S 9 1 x.2 x.1.LA.length (bt x.1.LA)
def lX(S:Nat)(w:World)(x:ap×Value×Value×Value):Prop:=w.ownsRow S 121 5 x.2.1 x.1.fields.length (nu x.1.fields)/\w.ownsRow S 9 1 x.2.2.1 x.1.Ly.length (bt x.1.Ly)/\ff w x.2.2.2 x.1.Lw
def oI(S:Nat)(w w':World):Prop:=au 9 S w w'/\au 121 S w w'/\au 137 0 w w'
theorem ff.stay{w w':World}{v:Value}{l:List Tk}(h:ff w v l)(hs:au 137 0 w w'):ff w' v l:=by
 rcases h with h|⟨g,off,cap,cur,h1,h2,h3⟩
 ·exact Or.inl h
 ·exact Or.inr ⟨g,off,cap,cur,h1,hs g _ _ (KU _) h2,h3⟩
theorem lZ.stays{S:Nat}{w w':World}(h:oI S w w'){x:aj×Value}(hx:lZ S w x):lZ S w' x:=dO hx h.1
theorem lX.stays{S:Nat}{w w':World}(h:oI S w w'){x:ap×Value×Value×Value}(hx:lX S w x):lX S w' x:=⟨dO hx.1 h.2.1,dO hx.2.1 h.1,hx.2.2.stay h.2.2⟩
structure RX(w:World)(X S:Nat)(vR vD:Value)(LR:List (aj×Value))(LD:List (ap×Value×Value×Value)):Prop where
 x:w.heap[X]?=some (.cells #[vR,vD] 62 (0,0))
 r:dk w S 92 2 vR mv (lZ S) LR
 d:dk w S 96 6 vD oL (lX S) LD
theorem RX.keep{w w':World}{X S R:Nat}{vR vD:Value}{LR:List (aj×Value)}{LD:List (ap×Value×Value×Value)}{cs:Array Value}{fr:Nat×Nat}(h:RX w X S vR vD LR LD)(hk:ai R w w')(hb:w.heap[R]?=some (.cells cs 89 fr)):RX w' X S vR vD LR LD:=by
 have hst:∀T B,(89:TypeId)≠T->au T B w w':=fun T B hT=>au.of_keep hk hb hT;have hin:oI S w w':=⟨hst _ _ (by decide),hst _ _ (by decide),hst _ _ (by decide)⟩;refine⟨?_,h.r.stays (hst _ _ (by decide)) (fun x hx=>lZ.stays hin hx),h.d.stays (hst _ _ (by decide)) (fun x hx=>lX.stays hin hx)⟩;exact hst 62 0 (by decide) X _ _ (KU _) h.x
theorem RX.below{w w':World}{X S:Nat}{vR vD:Value}{LR:List (aj×Value)}{LD:List (ap×Value×Value×Value)}(h:RX w X S vR vD LR LD)(hb:Lt w w'):RX w' X S vR vD LR LD:=by
 have hst:∀T B,au T B w w':=fun T B=>au.of_below hb;have hin:oI S w w':=⟨hst _ _,hst _ _,hst _ _⟩;exact⟨hst 62 0 X _ _ (KU _) h.x,h.r.stays (hst _ _) (fun x hx=>lZ.stays hin hx),h.d.stays (hst _ _) (fun x hx=>lX.stays hin hx)⟩
theorem RX.addR{w wA x3:World}{X S:Nat}{vR vD v':Value}{LR:List (aj×Value)}{LD:List (ap×Value×Value×Value)}{e:aj×Value}{l:List Value}(h:RX w X S vR vD LR LD)(hb:Lt w wA)(hg:wA.grownBy x3 vR.ownBlock)(ho:x3.ownsRow S 92 2 v' (LR.length+1) (LR.flatMap mv++l))(hl:l=mv e)(he:lZ S w e):RX (x3.setCell ⟨X,0,none⟩ v') X S v' vD (LR++[e]) LD:=by
 subst hl;have h2:=h.below hb;have hX3:x3.heap[X]?=some (.cells #[vR,vD] 62 (0,0)):=jq hg h2.x (gM h2.r.own h2.x (by decide));have hst:∀T B,(92:TypeId)≠T->(62:TypeId)≠T->au T B w (x3.setCell ⟨X,0,none⟩ v'):=fun T B h1 h3=>((au.of_below hb).trans (au.grown hg h2.r.own rfl h1)).trans (au.setT hX3 h3 0 v');have hin:oI S w (x3.setCell ⟨X,0,none⟩ v'):=⟨hst _ _ (by decide) (by decide),hst _ _ (by decide) (by decide),hst _ _ (by decide) (by decide)⟩;refine⟨aJ hX3 0 v',⟨?_,fun x hx=>?_⟩,h.d.stays (hst _ _ (by decide) (by decide)) (fun x hx=>lX.stays hin hx)⟩
 ·rw[Lb,List.flatMap_append]
  have:([e].flatMap mv)=mv e:=by simp
  rw[this];exact dO ho (au.setT hX3 (by decide) 0 v')
 ·rcases List.mem_append.1 hx with hx|hx
  ·exact lZ.stays hin (h.r.ok x hx)
  ·rw[List.mem_singleton]at hx;subst hx;exact lZ.stays hin he
theorem RX.addD{w wA x3:World}{X S:Nat}{vR vD v':Value}{LR:List (aj×Value)}{LD:List (ap×Value×Value×Value)}{e:ap×Value×Value×Value}{l:List Value}(h:RX w X S vR vD LR LD)(hb:Lt w wA)(hg:wA.grownBy x3 vD.ownBlock)(ho:x3.ownsRow S 96 6 v' (LD.length+1) (LD.flatMap oL++l))(hl:l=oL e)(he:lX S w e):RX (x3.setCell ⟨X,1,none⟩ v') X S vR v' LR (LD++[e]):=by
 subst hl;have h2:=h.below hb;have hX3:x3.heap[X]?=some (.cells #[vR,vD] 62 (0,0)):=jq hg h2.x (gM h2.d.own h2.x (by decide));have hst:∀T B,(96:TypeId)≠T->(62:TypeId)≠T->au T B w (x3.setCell ⟨X,1,none⟩ v'):=fun T B h1 h3=>((au.of_below hb).trans (au.grown hg h2.d.own rfl h1)).trans (au.setT hX3 h3 1 v');have hin:oI S w (x3.setCell ⟨X,1,none⟩ v'):=⟨hst _ _ (by decide) (by decide),hst _ _ (by decide) (by decide),hst _ _ (by decide) (by decide)⟩;refine⟨aJ hX3 1 v',h.r.stays (hst _ _ (by decide) (by decide)) (fun x hx=>lZ.stays hin hx),⟨?_,fun x hx=>?_⟩⟩
 ·rw[Lb,List.flatMap_append]
  have:([e].flatMap oL)=oL e:=by simp
  rw[this];exact dO ho (au.setT hX3 (by decide) 1 v')
 ·rcases List.mem_append.1 hx with hx|hx
  ·exact lX.stays hin (h.d.ok x hx)
  ·rw[List.mem_singleton]at hx;subst hx;exact lX.stays hin he
theorem dk.at{β:Type}{w:World}{B e size g n cap:Nat}{flat:β->List Value}{ok:World->β->Prop}{L:List β}(h:dk w B e size (.slice (some ⟨g,0,none⟩) n cap) flat ok L)(hf:∀x,(flat x).length=size)(i j:Nat)(x:β)(hx:L[i]?=some x)(hj:j<size):w.cell? ⟨g,i*size+j,none⟩=(flat x)[j]?:=by
 have hil:=(KO.1 hx).1;have key:∀(L:List β) (i:Nat),L[i]?=some x->(L.flatMap flat)[i*size+j]?=(flat x)[j]?:=by
  intro L
  induction L with
  |nil=>intro i hi;simp at hi
  |cons y L ih=>
   intro i hi;rw[List.flatMap_cons]
   match i,hi with
   |0,hi=>
    simp at hi;subst hi;rw[Lf (by rw[hf];omega)];congr 1;omega
   |i+1,hi=>
    rw[Lg (by rw[hf];rw[Nat.add_mul];omega),hf,<-ih i (by simpa using hi)];congr 1;rw[Nat.add_mul];omega
 rcases h.own.2 with⟨e0,_⟩|⟨g',LM,cur,hv,hg,hh,h1,h2,h3,h4⟩
 ·cases e0
 ·cases hv
  rw[ae hh,<-key L i hx,<-h4,List.getElem?_take_of_lt,Array.getElem?_toList];have:(i+1)*size<=L.length*size:=Nat.mul_le_mul_right _ hil;rw[Nat.add_mul]at this;omega
theorem RX.Lu{w:World}{X S:Nat}{vR vD:Value}{LR:List (aj×Value)}{LD:List (ap×Value×Value×Value)}(h:RX w X S vR vD LR LD):gZ w vR (LR.map Prod.fst):=by
 obtain⟨a,cap,hv⟩:=bc h.r.own;refine⟨a,cap,by rw[hv];simp,?_⟩;rcases h.r.own.2 with⟨e0,e1⟩|⟨g,LM,cur,hv',_⟩
 ·left
  have:LR=[]:=KZ e1;rw[this];rfl
 ·right
  rw[hv]at hv';cases hv';refine⟨g,rfl,fun j r hj=>?_⟩;rw[La]at hj;cases hx:LR[j]? with
  |none=>rw[hx]at hj;cases hj
  |some y=>
   rw[hx]at hj;cases hj;have hr:=h.r;rw[hv]at hr;have c0:=hr.at (fun _=>rfl) j 0 y hx (by decide);have c1:=hr.at (fun _=>rfl) j 1 y hx (by decide);exact⟨c0,y.2,c1,cH.of_own (hr.ok y (KN hx))⟩
theorem kY.of_own{w:World}{base:Nat}{v:Value}{l:List bj}(h:w.ownsRow base 121 5 v l.length (nu l)):kY w v l:=by
 obtain⟨a,cap,hv⟩:=bc h;refine⟨a,cap,hv,?_⟩;rcases h.2 with⟨e0,e1⟩|⟨g,LM,cur,hv',_⟩
 ·left;exact KZ e1
 ·right
  rw[hv]at hv';cases hv';rw[hv]at h;have hr:dk w base 121 5 (.slice (some ⟨g,0,none⟩) l.length cap) (fun f=>(sk f).toList) (fun _ _=>True) l:=⟨h,fun _ _=>trivial⟩;refine⟨g,rfl,fun j f hj=>?_⟩;exact⟨hr.at (fun _=>rfl) j 0 f hj (by decide),hr.at (fun _=>rfl) j 1 f hj (by decide),hr.at (fun _=>rfl) j 2 f hj (by decide),hr.at (fun _=>rfl) j 3 f hj (by decide),hr.at (fun _=>rfl) j 4 f hj (by decide)⟩
theorem RX.Lv{w:World}{X S:Nat}{vR vD:Value}{LR:List (aj×Value)}{LD:List (ap×Value×Value×Value)}(h:RX w X S vR vD LR LD):i5 w vD (LD.map Prod.fst):=by
 obtain⟨a,cap,hv⟩:=bc h.d.own;refine⟨a,cap,by rw[hv];simp,?_⟩;rcases h.d.own.2 with⟨e0,e1⟩|⟨g,LM,cur,hv',_⟩
 ·left
  have:LD=[]:=KZ e1;rw[this];rfl
 ·right
  rw[hv]at hv';cases hv';refine⟨g,rfl,fun j r hj=>?_⟩;rw[La]at hj;cases hx:LD[j]? with
  |none=>rw[hx]at hj;cases hj
  |some y=>
   rw[hx]at hj;cases hj;have hr:=h.d;rw[hv]at hr;obtain⟨o1,o2,o3⟩:=hr.ok y (KN hx);exact⟨hr.at (fun _=>rfl) j 0 y hx (by decide),hr.at (fun _=>rfl) j 1 y hx (by decide),hr.at (fun _=>rfl) j 4 y hx (by decide),y.2.1,y.2.2.1,y.2.2.2,hr.at (fun _=>rfl) j 2 y hx (by decide),hr.at (fun _=>rfl) j 3 y hx (by decide),hr.at (fun _=>rfl) j 5 y hx (by decide),kY.of_own o1,cH.of_own o2,o3⟩
inductive Reach{α:Type}(R:α->α->Prop):α->α->Prop
 |refl (a:α):Reach R a a
 |step {a b c:α}:Reach R a b->R b c->Reach R a c
theorem Reach.trans{α:Type}{R:α->α->Prop}{a b c:α}(h:Reach R a b)(k:Reach R b c):Reach R a c:=by
 induction k with
 |refl=>exact h
 |step _ r ih=>exact Reach.step ih r
theorem sx:∀(LA l:List Ls) (y:Ls),y∈fL LA l↔y∈l\/y∈LA
 |[],l,y=>by simp[fL]
 |x::r,l,y=>by
  rw[fL,sx r];cases h:ba x l
  ·simp only[Lj,if_false,List.mem_append,List.mem_cons,List.not_mem_nil,or_false]
   constructor
   ·rintro((a|a)|a)
    ·exact Or.inl a
    ·exact Or.inr (Or.inl a)
    ·exact Or.inr (Or.inr a)
   ·rintro(a|a|a)
    ·exact Or.inl (Or.inl a)
    ·exact Or.inl (Or.inr a)
    ·exact Or.inr a
  ·have hx:=(ii x l).1 h
   simp only[if_true,List.mem_cons];constructor
   ·rintro(a|a)
    ·exact Or.inl a
    ·exact Or.inr (Or.inr a)
   ·rintro(a|a|a)
    ·exact Or.inl a
    ·subst a;exact Or.inl hx
    ·exact Or.inr a
theorem CO:∀(LA l:List Ls) (j:Nat) (y:Ls),l[j]?=some y->(fL LA l)[j]?=some y
 |[],l,j,y,h=>h
 |x::r,l,j,y,h=>by
  rw[fL];refine CO r _ j y ?_;split
  ·exact h
  ·rw[Lf (KO.1 h).1];exact h
theorem C8(Lu:List aj)(x:Ls):∀(f i:Nat) (l:List Ls),mu Lu i l<f->
 (∀y∈l,Reach (fun a b=>b∈g8 Lu a) x y)->(∀j y,j<i->l[j]?=some y->∀z∈g8 Lu y,z∈l)->x∈l->
 ∀y,y∈kG Lu f i l↔Reach (fun a b=>b∈g8 Lu a) x y
 |0,i,l,h,_,_,_=>by omega
 |f+1,i,l,h,h1,h2,h3=>by
  intro y;rw[kG];cases hx:l[i]? with
  |none=>
   simp only;refine⟨h1 y,fun hr=>?_⟩
   induction hr with
   |refl=>exact h3
   |step _ r ih=>
    obtain⟨j,hj⟩:=List.mem_iff_getElem?.1 ih;refine h2 j _ ?_ hj _ r;have:=(KO.1 hj).1;have:=List.getElem?_eq_none_iff.1 hx;omega
  |some z=>
   simp only;have hs:=um Lu i l z hx;refine C8 Lu x f (i+1) _ (by omega) ?_ ?_ ?_ y
   ·intro y hy
    rcases(sx _ _ _).1 hy with a|a
    ·exact h1 y a
    ·exact Reach.step (h1 z (KN hx)) a
   ·intro j y hj hy u hu
    rw[sx];have hjl:j<l.length:=by have:=(KO.1 hx).1;omega
    have hy2:l[j]?=some y:=by
     have:=CO (g8 Lu z) l j _ (KM hjl);rw[this]at hy;rw[KM hjl];exact hy
    by_cases e:j=i
    ·subst e
     rw[hx]at hy2;cases hy2;exact Or.inr hu
    ·exact Or.inl (h2 j y (by omega) hy2 u hu)
   ·rw[sx];exact Or.inl h3
theorem vg(Lu:List aj)(x y:Ls):y∈iE Lu x↔Reach (fun a b=>b∈g8 Lu a) x y:=by
 unfold iE;refine C8 Lu x _ 0 [x] (by omega) ?_ ?_ (by simp) y
 ·intro y hy
  simp at hy;subst hy;exact Reach.refl _
 ·intro j y hj;omega
def jl(Lu:List aj)(i j:Nat):Prop:=∃y∈kx Lu i,(ah (Lu.map aj.name) y).toNat=j
theorem Co(nms:List Ls):∀(ys:List Ls) (st:OS),(∀y∈ys,(ah nms y).toNat<st.2.length)->fe (ys.foldl (eK nms) st)<=fe st/\(ys.foldl (eK nms) st).2.length=st.2.length
 |[],st,_=>⟨KK _,rfl⟩
 |y::ys,st,h=>by
  rw[List.foldl_cons];have h1:=xu nms st y (h y (by simp));have h2:=Co nms ys (eK nms st y) (fun z hz=>by rw[h1.2];exact h z (by simp[hz]));exact⟨KP h2.1 h1.1,h2.2.trans h1.2⟩
theorem IX(nms:List Ls)(st:OS)(y:Ls)(h:(ah nms y).toNat<st.2.length):
 (∀j,(eK nms st y).2.getD j false=true↔st.2.getD j false=true\/j=(ah nms y).toNat)/\
 (∀j,j∈(eK nms st y).1->j∈st.1\/j=(ah nms y).toNat)/\
 (∀j,j∈st.1->j∈(eK nms st y).1)/\
 (∀j,(eK nms st y).2.getD j false=true->st.2.getD j false=true\/j∈(eK nms st y).1):=by
 unfold eK;generalize (ah nms y).toNat=k at*;cases hk:st.2.getD k false
 ·simp only[Lj,if_false]
  have key:∀j,(st.2.set k true).getD j false=true↔st.2.getD j false=true\/j=k:=by
   intro j;rw[List.getD_eq_getElem?_getD,List.getD_eq_getElem?_getD,List.getElem?_set];by_cases e:k=j
   ·subst e;simp[h]
   ·rw[K8 e]
    constructor
    ·exact Or.inl
    ·rintro(a|a)
     ·exact a
     ·exact absurd a.symm e
  refine⟨key,?_,?_,?_⟩
  ·intro j hj
   rcases List.mem_append.1 hj with a|a
   ·exact Or.inl a
   ·exact Or.inr (by simpa using a)
  ·intro j hj;exact List.mem_append.2 (Or.inl hj)
  ·intro j hj
   rcases(key j).1 hj with a|a
   ·exact Or.inl a
   ·subst a;exact Or.inr (by simp)
 ·simp only[if_true]
  refine⟨fun j=>⟨Or.inl,?_⟩,fun j=>Or.inl,fun j h=>h,fun j=>Or.inl⟩;rintro(a|a)
  ·exact a
  ·subst a;exact hk
theorem CL(nms:List Ls):∀(ys:List Ls) (st:OS),(∀y∈ys,(ah nms y).toNat<st.2.length)->
 (∀j,(ys.foldl (eK nms) st).2.getD j false=true↔st.2.getD j false=true\/∃y∈ys,(ah nms y).toNat=j)/\
 (∀j,j∈(ys.foldl (eK nms) st).1->j∈st.1\/∃y∈ys,(ah nms y).toNat=j)/\
 (∀j,j∈st.1->j∈(ys.foldl (eK nms) st).1)/\
 (∀j,(ys.foldl (eK nms) st).2.getD j false=true->st.2.getD j false=true\/j∈(ys.foldl (eK nms) st).1)
 |[],st,_=>⟨fun j=>⟨Or.inl,fun h=>by rcases h with h|⟨y,hy,_⟩;exact h;simp at hy⟩,fun j=>Or.inl,fun j h=>h,fun j=>Or.inl⟩
 |y::ys,st,h=>by
  rw[List.foldl_cons];obtain⟨a1,a2,a3,a4⟩:=IX nms st y (h y (by simp));have h1:=xu nms st y (h y (by simp));obtain⟨b1,b2,b3,b4⟩:=CL nms ys (eK nms st y) (fun z hz=>by rw[h1.2];exact h z (by simp[hz]));refine⟨fun j=>?_,fun j hj=>?_,fun j hj=>b3 j (a3 j hj),fun j hj=>?_⟩
  ·rw[b1,a1]
   constructor
   ·rintro((a|a)|⟨z,hz,e⟩)
    ·exact Or.inl a
    ·exact Or.inr ⟨y,by simp,a.symm⟩
    ·exact Or.inr ⟨z,by simp[hz],e⟩
   ·rintro(a|⟨z,hz,e⟩)
    ·exact Or.inl (Or.inl a)
    ·rcases List.mem_cons.1 hz with q|q
     ·subst q;exact Or.inl (Or.inr e.symm)
     ·exact Or.inr ⟨z,q,e⟩
  ·rcases b2 j hj with a|⟨z,hz,e⟩
   ·rcases a2 j a with q|q
    ·exact Or.inl q
    ·exact Or.inr ⟨y,by simp,q.symm⟩
   ·exact Or.inr ⟨z,by simp[hz],e⟩
  ·rcases b4 j hj with a|a
   ·rcases a4 j a with q|q
    ·exact Or.inl q
    ·exact Or.inr (b3 j q)
   ·exact Or.inr a
theorem C6(Lu:List aj)(p:Nat)(st:OS)(h0:st.1.length=0)
 (h1:∀j,st.2.getD j false=true->∃k,Reach (jl Lu) p k/\jl Lu k j)
 (h3:∀k,(k=p\/st.2.getD k false=true)->k∈st.1\/∀j,jl Lu k j->st.2.getD j false=true) (j:Nat):
 st.2.getD j false=true↔∃k,Reach (jl Lu) p k/\jl Lu k j:=by
 have hn:st.1=[]:=KZ h0;have key:∀k,Reach (jl Lu) p k->k=p\/st.2.getD k false=true:=by
  intro k hk
  induction hk with
  |refl=>exact Or.inl rfl
  |step _ r ih=>
   right;rcases h3 _ ih with a|a
   ·rw[hn]at a;simp at a
   ·exact a _ r
 refine⟨h1 j,?_⟩;rintro⟨k,hk,he⟩;rcases h3 k (key k hk)with a|a
 ·rw[hn]at a;simp at a
 ·exact a j he
theorem wD(Lu:List aj)(p:Nat)(hin:∀i,∀y∈kx Lu i,(ah (Lu.map aj.name) y).toNat<Lu.length):
 ∀(f:Nat) (st:OS),fe st<=f->st.2.length=Lu.length->
 (∀j,st.2.getD j false=true->∃k,Reach (jl Lu) p k/\jl Lu k j)->
 (∀j∈st.1,Reach (jl Lu) p j)->
 (∀k,(k=p\/st.2.getD k false=true)->k∈st.1\/∀j,jl Lu k j->st.2.getD j false=true)->
 ∀j,(dV Lu f st).getD j false=true↔∃k,Reach (jl Lu) p k/\jl Lu k j
 |0,st,h,_,h1,_,h3=>by
  intro j;rw[dV];exact C6 Lu p st (by unfold fe at h;omega) h1 h3 j
 |f+1,st,h,hl,h1,h2,h3=>by
  intro j;rw[dV];by_cases h0:st.1.length=0
  ·rw[K9 h0]
   exact C6 Lu p st h0 h1 h3 j
  ·rw[K8 h0]
   have hne:st.1≠[]:=fun e=>h0 (by rw[e];rfl);have NP:st.1.getLastD 0=st.1.getLast hne:=by
    rw[List.getLastD_eq_getLast?,List.getLast?_eq_some_getLast hne];rfl
   have Nx:st.1=st.1.dropLast++[st.1.getLastD 0]:=by rw[NP];exact(List.dropLast_concat_getLast hne).symm
   generalize hq:st.1.getLastD 0=q at*;have hqm:q∈st.1:=by rw[Nx];simp
   unfold qg;rw[hq];have hb:∀y∈kx Lu q,(ah (Lu.map aj.name) y).toNat<((st.1.dropLast,st.2):OS).2.length:=fun y hy=>by
    show _<st.2.length;rw[hl];exact hin q y hy
   have hm:=Co (Lu.map aj.name) (kx Lu q) (st.1.dropLast,st.2) hb;obtain⟨b1,b2,b3,b4⟩:=CL (Lu.map aj.name) (kx Lu q) (st.1.dropLast,st.2) hb;generalize (kx Lu q).foldl (eK (Lu.map aj.name)) (st.1.dropLast,st.2)=st' at*;simp only at b1 b2 b3 b4;have hmu:fe (st.1.dropLast,st.2)+1=fe st:=by
    unfold fe;simp only[List.length_dropLast];omega
   refine wD Lu p hin f st' (by omega) (hm.2.trans hl) ?_ ?_ ?_ j
   ·intro j hj
    rcases(b1 j).1 hj with a|⟨y,hy,e⟩
    ·exact h1 j a
    ·exact⟨q,h2 q hqm,y,hy,e⟩
   ·intro j hj
    rcases b2 j hj with a|⟨y,hy,e⟩
    ·exact h2 j (by rw[Nx];exact List.mem_append.2 (Or.inl a))
    ·exact Reach.step (h2 q hqm) ⟨y,hy,e⟩
   ·intro k hk
    by_cases e:k=q
    ·right
     intro j hj;subst e;obtain⟨y,hy,e⟩:=hj;exact(b1 j).2 (Or.inr ⟨y,hy,e⟩)
    ·have hk2:(k=p\/st.2.getD k false=true)\/k∈st'.1:=by
      rcases hk with a|a
      ·exact Or.inl (Or.inl a)
      ·rcases b4 k a with x|x
       ·exact Or.inl (Or.inr x)
       ·exact Or.inr x
     rcases hk2 with a|a
     ·rcases h3 k a with x|x
      ·left
       rw[Nx]at x;rcases List.mem_append.1 x with x|x
       ·exact b3 k x
       ·exact absurd (by simpa using x) e
      ·right
       intro j hj;exact(b1 j).2 (Or.inl (x j hj))
     ·exact Or.inl a
theorem j3{α:Type}(g:α->Ls)(l:List α)(x:Ls)(h:¬ah (l.map g) x<0):∃(k:Nat) (a:α),ah (l.map g) x=k/\l[k]?=some a/\g a=x/\k<l.length:=by
 have key:∀(l:List α) (n:Nat),¬dK (l.map g) x n<0->∃(k:Nat) (a:α),dK (l.map g) x n=((n+k:Nat):Int)/\l[k]?=some a/\g a=x:=by
  intro l
  induction l with
  |nil=>intro n hn;exact absurd (show(-1:Int)<0 by decide) hn
  |cons y l ih=>
   intro n hn;rw[List.map_cons,dK]at hn⊢;by_cases e:g y=x
   ·rw[K9 e];exact⟨0,y,by simp,by simp,e⟩
   ·rw[K8 e]at hn⊢
    obtain⟨k,a,h1,h2,h3⟩:=ih (n+1) hn;exact⟨k+1,a,by rw[h1];congr 1;omega,by simpa using h2,h3⟩
 obtain⟨k,a,h1,h2,h3⟩:=key l 0 h;rw[Nat.zero_add]at h1;exact⟨k,a,h1,h2,h3,(KO.1 h2).1⟩
theorem iT(l:List Ls)(x:Ls):(¬ah l x<0)↔x∈l:=by
 constructor
 ·intro h
  have h':¬ah (l.map id) x<0:=by rw[List.map_id];exact h
  obtain⟨k,a,_,h2,h3,_⟩:=j3 id l x h';rw[<-h3];exact KN h2
 ·intro h hn
  obtain⟨k,hk⟩:=List.mem_iff_getElem?.1 h;have key:∀(l:List Ls) (n:Nat),x∈l->0<=dK l x n:=by
   intro l
   induction l with
   |nil=>intro n h;simp at h
   |cons y l ih=>
    intro n h;rw[dK];by_cases e:y=x
    ·rw[K9 e];omega
    ·rw[K8 e]
     rcases List.mem_cons.1 h with q|q
     ·exact absurd q.symm e
     ·exact ih _ q
  have:=key l 0 h;unfold ah at hn;omega
theorem D8{α:Type}{R:α->α->Prop}{a b:α}(h:Reach R a b):∀c,R b c->∃d,R a d/\Reach R d c:=by
 induction h with
 |refl=>intro c hc;exact⟨c,hc,Reach.refl _⟩
 |step _ r ih=>
  intro c hc;obtain⟨d,h1,h2⟩:=ih _ r;exact⟨d,h1,Reach.step h2 hc⟩
theorem En{α:Type}{R:α->α->Prop}{b c:α}(h:Reach R b c):∀a,R a b->∃d,Reach R a d/\R d c:=by
 induction h with
 |refl=>intro a ha;exact⟨a,Reach.refl _,ha⟩
 |step _ r ih=>
  intro a ha;obtain⟨d,h1,h2⟩:=ih a ha;exact⟨_,Reach.step h1 h2,r⟩
theorem vr(Lu:List aj)(k:Nat)(r:aj)(x:Ls)(h:ah (Lu.map aj.name) x=k)(hr:Lu[k]?=some r):g8 Lu x=r.LA:=by
 unfold g8;rw[K8 (by omega),h,Lk,hr];rfl
theorem pC(Lu:List aj)(k:Nat)(r:aj)(hr:Lu[k]?=some r):kx Lu k=r.LA:=by
 unfold kx;rw[hr]
theorem CE(Lu:List aj)(hn:(Lu.map aj.name).Nodup)(hK:∀r∈Lu,∀y∈r.LA,y∈Lu.map aj.name){i:Nat}{r:aj}(hr:Lu[i]?=some r){j:Nat}(h:Reach (jl Lu) i j):∃r',Lu[j]?=some r'/\Reach (fun a b=>b∈g8 Lu a) r.name r'.name:=by
 induction h with
 |refl=>exact⟨r,hr,Reach.refl _⟩
 | @step b c _ he ih=>
   obtain⟨rb,hb,M5⟩:=ih;obtain⟨y,hy,e⟩:=he;rw[pC Lu b rb hb]at hy;have hym:=hK rb (KN hb) y hy;obtain⟨k,rc,h1,h2,h3,_⟩:=j3 aj.name Lu y ((iT _ _).2 hym);rw[h1,Lk]at e;subst e;refine⟨rc,h2,Reach.step M5 ?_⟩;have hbn:(Lu.map aj.name)[b]?=some rb.name:=by rw[La,hb];rfl
   rw[vr Lu b rb rb.name (o6 _ _ _ hn hbn) hb,h3];exact hy
theorem vh(Lu:List aj)(hK:∀r∈Lu,∀y∈r.LA,y∈Lu.map aj.name){a b:Ls}(ha:a∈Lu.map aj.name)(h:Reach (fun a b=>b∈g8 Lu a) a b):b∈Lu.map aj.name/\Reach (jl Lu) (ah (Lu.map aj.name) a).toNat (ah (Lu.map aj.name) b).toNat:=by
 induction h with
 |refl=>exact⟨ha,Reach.refl _⟩
 | @step b c _ he ih=>
   obtain⟨hb,M5⟩:=ih;obtain⟨k,rb,h1,h2,h3,_⟩:=j3 aj.name Lu b ((iT _ _).2 hb);rw[vr Lu k rb b h1 h2]at he;refine⟨hK rb (KN h2) c he,Reach.step M5 ?_⟩;rw[h1,Lk];exact⟨c,by rw[pC Lu k rb h2];exact he,rfl⟩
theorem Ij(Lu:List aj)(hn:(Lu.map aj.name).Nodup)(hK:∀r∈Lu,∀y∈r.LA,y∈Lu.map aj.name):(Lu.all (mz Lu))=(List.range Lu.length).all fun i=>!(dV Lu (2*Lu.length+1) ([i],List.replicate Lu.length false)).getD i false:=by
 have hin:∀i,∀y∈kx Lu i,(ah (Lu.map aj.name) y).toNat<Lu.length:=by
  intro i y hy;cases hr:Lu[i]? with
  |none=>unfold kx at hy;rw[hr]at hy;simp at hy
  |some r=>
   rw[pC Lu i r hr]at hy;obtain⟨k,rc,h1,h2,h3,h4⟩:=j3 aj.name Lu y ((iT _ _).2 (hK r (KN hr) y hy));rw[h1,Lk];exact h4
 have hfr:∀j,(List.replicate Lu.length false).getD j false=false:=by
  intro j;rw[List.getD_eq_getElem?_getD,List.getElem?_replicate];split<;>rfl
 have hP:∀i,((dV Lu (2*Lu.length+1) ([i],List.replicate Lu.length false)).getD i false=true↔∃k,Reach (jl Lu) i k/\jl Lu k i):=by
  intro i;refine wD Lu i hin _ _ ?_ (by simp) ?_ ?_ ?_ i
  ·unfold fe pr
   simp[List.countP_replicate]
  ·intro j hj
   rw[hfr j]at hj;cases hj
  ·intro j hj
   simp at hj;subst hj;exact Reach.refl _
  ·intro k hk
   rcases hk with e|e
   ·left;simp[e]
   ·rw[hfr k]at e;cases e
 rw[Bool.eq_iff_iff,Lh,Lh];constructor
 ·intro h i hi
  rw[List.mem_range]at hi;cases hb:(dV Lu (2*Lu.length+1) ([i],List.replicate Lu.length false)).getD i false
  ·rfl
  ·exfalso
   obtain⟨k,h1,h2⟩:=(hP i).1 hb;obtain⟨j,h3,h4⟩:=D8 h1 i h2;have hr:=KM hi;obtain⟨y,hy,e⟩:=h3;rw[pC Lu i _ hr]at hy;have hym:=hK _ (KN hr) y hy;obtain⟨k',rc,q1,q2,q3,_⟩:=j3 aj.name Lu y ((iT _ _).2 hym);rw[q1,Lk]at e;subst e;obtain⟨r',q4,q5⟩:=CE Lu hn hK q2 h4;rw[hr]at q4;cases q4;rw[q3]at q5;have hok:=h _ (KN hr);unfold mz at hok;rw[Lh]at hok;have:=hok y hy;unfold nB at this;rw[Li,Bool.not_eq_true']at this;have hm:=(ii _ _).2 ((vg Lu y _).2 q5);rw[this.2]at hm;cases hm
 ·intro h r hr
  unfold mz;rw[Lh];intro y hy;unfold nB;have hym:=hK r hr y hy;rw[Le (by have:=(iT _ _).2 hym;omega),Bool.true_and,Bool.not_eq_true'];apply pO;intro hm;have M5:=(vg Lu y _).1 hm;obtain⟨_,hpl⟩:=vh Lu hK hym M5;obtain⟨i,hi⟩:=List.mem_iff_getElem?.1 hr;have hil:=(KO.1 hi).1;have hbn:(Lu.map aj.name)[i]?=some r.name:=by rw[La,hi];rfl
  rw[o6 _ _ _ hn hbn,Lk]at hpl;obtain⟨d,h1,h2⟩:=En hpl i ⟨y,by rw[pC Lu i r hi];exact hy,rfl⟩;have:=h i (List.mem_range.2 hil);rw[(hP i).2 ⟨d,h1,h2⟩]at this;cases this
theorem GS(Lu:List aj):lE Lu=r9 Lu:=by
 unfold lE r9;rw[nQ];cases hn:dZ (Lu.map aj.name)
 ·rw[Bool.and_false,Bool.false_and]
 ·rw[Bool.and_true,Bool.true_and]
  cases hK:(Lu.all fun r=>r.LA.all fun y=>ba y (Lu.map aj.name))
  ·rw[Bool.false_and]
   cases hR:Lu.all (mz Lu)
   ·rfl
   ·exfalso
    rw[Lh]at hR;have:(Lu.all fun r=>r.LA.all fun y=>ba y (Lu.map aj.name))=true:=by
     rw[Lh];intro r hr;rw[Lh];intro y hy;have h1:=hR r hr;unfold mz at h1;rw[Lh]at h1;have h2:=h1 y hy;unfold nB at h2;rw[Li,Lc]at h2;exact(ii _ _).2 ((iT _ _).1 (by omega))
    rw[this]at hK;cases hK
  ·rw[Bool.true_and]
   refine Ij Lu ((kR _).1 hn) ?_;intro r hr y hy;rw[Lh]at hK;have h1:=hK r hr;rw[Lh]at h1;exact(ii _ _).1 (h1 y hy)
def jF(n:Ls):Prop:=0<n.size/\∀b∈n.data.toList,aw bm b=true
def tg(t:Tk):Prop:=t.k=1->∀b∈t.s.data.toList,aw bm b=true
theorem Ff(l:List UInt8)(x:Tk×Nat)(h:cG l=some x):tg x.1:=by
 unfold cG at h;split at h
 ·cases h
 ·rename_i c r
  split at h
  ·cases h
   intro _ b hb;exact sJ _ bm b (by simpa [aE]using hb)
  ·split at h
   ·cases hn:ch (c::r)with
    |none=>rw[hn]at h;cases h
    |some y=>rw[hn]at h;cases h;intro e;cases e
   ·split at h
    ·cases hn:cj r [] 1 with
     |none=>rw[hn]at h;cases h
     |some y=>rw[hn]at h;cases h;intro e;cases e
    ·split at h
     ·cases h;intro e;cases e
     ·cases hn:kH dB.data.toList c 5 with
      |none=>rw[hn]at h;cases h
      |some i=>rw[hn]at h;cases h;intro _ b hb;simp at hb
theorem JY:∀(f:Nat) (l:List UInt8) (ts:List Tk),js f l=some ts->∀t∈ts,tg t:=by
 intro f
 induction f with
 |zero=>intro l ts h;cases h
 |succ f ih=>
  intro l ts h
  match l with
  |[]=>cases h;intro t ht;cases ht
  |c::r=>
   simp only[js]at h;by_cases h1:aw eZ c=true
   ·rw[K9 h1]at h;exact ih r ts h
   rw[K8 h1]at h;by_cases h2:c=35
   ·rw[K9 h2]at h;exact ih _ ts h
   rw[K8 h2]at h;cases hx:cG (c::r)with
   |none=>rw[hx]at h;cases h
   |some x=>
    rw[hx]at h;simp only at h;cases hy:js f ((c::r).drop x.2)with
    |none=>rw[hy]at h;cases h
    |some ts'=>
     rw[hy]at h;simp only[Option.map_some,Option.some.injEq]at h;subst h;intro t ht;rcases List.mem_cons.1 ht with e|e
     ·rw[e];exact Ff _ _ hx
     ·exact ih _ ts' hy t e
theorem IS(s:Ls)(ts:List Tk)(h:av s=some ts):∀t∈ts,tg t:=by
 unfold av at h;by_cases h0:4000<s.size
 ·rw[K9 h0]at h;cases h
 rw[K8 h0]at h;cases hx:bG s.data.toList with
 |none=>rw[hx]at h;cases h
 |some l=>
  rw[hx]at h;simp only at h;by_cases h1:l.length<=800
  ·rw[K9 h1]at h;cases h
   exact JY _ _ _ hx
  ·rw[K8 h1]at h;cases h
def jc(s:St):Prop:=∀t∈s.getD [],io t/\tg t
theorem JK(s:St)(h:jc s):jc (tl s):=by
 intro t ht
 match s,h,ht with
 |none,h,ht=>exact h t ht
 |some [],h,ht=>exact h t ht
 |some (x::l),h,ht=>exact h t (List.mem_cons_of_mem _ ht)
theorem Js:jc none:=fun t ht=>by simp at ht
theorem zd(s:St)(h:jc s)(hs:ab s≠none):jF (nm s):=by
 by_cases hk:af s 1=true
 ·match s,h,hk with
  |none,_,hk=>rw[eP 1 (by decide)]at hk;cases hk
  |some [],_,hk=>rw[nN 1 (by decide)]at hk;cases hk
  |some (t::l),h,hk=>
   have ht:t.k=1:=by simpa [af,hd]using hk
   obtain⟨h1,h2⟩:=h t (by simp);unfold nm;rw[K9 hk];exact⟨h1.2.2.2 ht,h2 ht⟩
 ·exact absurd (wZ s hk) hs
def fZ:dh->Prop
 | .one n _=>jF n
 | .list t _=>fZ t
theorem qv(a b:Ls):(a++b).data.toList=a.data.toList++b.data.toList:=by
 rw[ByteArray.data_append,Array.toList_append]
def dE:dh->List UInt8
 | .one n st=>n.data.toList++(if st=true then [33]else [])
 | .list t st=>91::(dE t++93::(if st=true then [33]else []))
theorem kW:∀(t:dh),(ci t).data.toList=dE t
 | .one n st=>by
   rw[ci,dE];cases st
   ·simp
   ·simp only[if_true];rw[qv]
 | .list t st=>by
   rw[ci,dE,<-kW t];cases st
   ·simp only[Lj,if_false];rw[qv,qv];simp
   ·simp only[if_true];rw[qv,qv,qv];simp
theorem vE:aw bm 33=false:=by decide
theorem qJ:aw bm 91=false:=by decide
theorem AS:aw bm 93=false:=by decide
theorem jF.cons{n:Ls}(h:jF n):∃c l,n.data.toList=c::l/\aw bm c=true:=by
 cases hd:n.data.toList with
 |nil=>
  have:=congrArg List.length hd;simp at this;have h0:=h.1;rw[show n.size=n.data.size from rfl,this]at h0;simp at h0
 |cons c l=>exact⟨c,l,rfl,h.2 c (by rw[hd];simp)⟩
theorem qV(t:dh)(h:fZ t):mF (ci t)=mw t:=by
 unfold mF;rw[kW];cases t with
 |one n st=>
  obtain⟨c,l,e,hc⟩:=jF.cons h;rw[dE,e];simp only[List.cons_append,List.head?_cons,mw];apply KT;intro q;simp only[Option.some.injEq]at q;rw[q,qJ]at hc;cases hc
 |list t st=>rw[dE];simp[mw]
theorem yF(B:Ls):∀(l r:List UInt8),(∀b∈l,aw B b=true)->(∀c,r.head?=some c->aw B c=false)->ay (l++r) B=l.length
 |[],[],_,_=>by simp[ay]
 |[],c::r,_,h=>by
  unfold ay;rw[List.nil_append,List.takeWhile_cons_of_neg (by rw[h c rfl];simp)]
 |c::l,r,h1,h2=>by
  have:=yF B l r (fun b hb=>h1 b (by simp[hb])) h2;unfold ay at this⊢;rw[List.cons_append,List.takeWhile_cons_of_pos (h1 c (by simp)),Lm,this,Lm]
theorem In(n:Ls)(h:jF n)(r:List UInt8)(hr:∀c,r.head?=some c->aw bm c=false)(x:List UInt8)(hx:x.dropWhile (· ==91)=n.data.toList++r):aE ((x.dropWhile (· ==91)).take (ay (x.dropWhile (· ==91)) bm))=n:=by
 rw[hx,yF bm _ _ h.2 hr,List.take_left];rfl
theorem AG:∀(t:dh),fZ t->∀r:List UInt8,(∀c,r.head?=some c->aw bm c=false)->∃r',(dE t++r).dropWhile (· ==91)=(bN t).data.toList++r'/\∀c,r'.head?=some c->aw bm c=false
 | .one n st,h,r,hr=>by
   refine⟨(if st=true then [33]else [])++r,?_,?_⟩
   ·rw[dE,bN,List.append_assoc]
    obtain⟨c,l,e,hc⟩:=jF.cons h;rw[e,List.cons_append,List.dropWhile_cons_of_neg];intro q;simp only[beq_iff_eq]at q;rw[q,qJ]at hc;cases hc
   ·intro c hc
    cases st
    ·exact hr c (by simpa using hc)
    ·simp at hc;rw[<-hc];exact vE
 | .list t st,h,r,hr=>by
   rw[dE,bN,List.cons_append,List.dropWhile_cons_of_pos (by simp),List.append_assoc];exact AG t h _ (fun c hc=>by simp at hc;rw[<-hc];exact AS)
theorem B8:∀(t:dh),fZ t->jF (bN t)
 | .one _ _,h=>h
 | .list t _,h=>B8 t h
theorem tF(t:dh)(h:fZ t):kB (ci t)=bN t:=by
 unfold kB;rw[kW];obtain⟨r',h1,h2⟩:=AG t h [] (fun c hc=>by simp at hc);rw[List.append_nil]at h1;exact In _ (B8 t h) r' h2 _ h1
theorem GB{a b:List UInt8}{s r:Bool}(ha:∀c∈a,aw bm c=true)(hb:∀c∈b,aw bm c=true)(h:a++(if s=true then [33]else [])=b++(if r=true then [33]else [])):a=b/\s=r:=by
 cases s<;>cases r
 ·simpa using h
 ·simp only[Lj,if_false,if_true,List.append_nil]at h
  have:=ha 33 (by rw[h];simp);rw[vE]at this;cases this
 ·simp only[Lj,if_false,if_true,List.append_nil]at h
  have:=hb 33 (by rw[<-h];simp);rw[vE]at this;cases this
 ·simp only[if_true]at h
  exact⟨List.append_cancel_right h,rfl⟩
theorem uG:∀(t u:dh),fZ t->fZ u->dE t=dE u->t=u
 | .one n s,.one m r,h1,h2,h=>by
   rw[dE,dE]at h;obtain⟨e1,e2⟩:=GB h1.2 h2.2 h;have:n=m:=by
    apply ByteArray.ext;exact Array.toList_inj.1 e1
   rw[this,e2]
 | .one n s,.list u r,h1,h2,h=>by
   obtain⟨c,l,e,hc⟩:=jF.cons h1;rw[dE,dE,e,List.cons_append]at h;have:=(List.cons.inj h).1;rw[this,qJ]at hc;cases hc
 | .list t s,.one m r,h1,h2,h=>by
   obtain⟨c,l,e,hc⟩:=jF.cons h2;rw[dE,dE,e,List.cons_append]at h;have:=(List.cons.inj h).1;rw[<-this,qJ]at hc;cases hc
 | .list t s,.list u r,h1,h2,h=>by
   rw[dE,dE]at h;have h:=(List.cons.inj h).2;have key:s=r/\dE t=dE u:=by
    cases s<;>cases r
    ·simp only[Lj,if_false]at h
     exact⟨rfl,List.append_cancel_right h⟩
    ·simp only[Lj,if_false,if_true]at h
     have:=congrArg List.getLast? h;simp at this
    ·simp only[Lj,if_false,if_true]at h
     have:=congrArg List.getLast? h;simp at this
    ·simp only[if_true]at h
     exact⟨rfl,List.append_cancel_right h⟩
   rw[key.1,uG t u h1 h2 key.2]
theorem uF:∀(t u:dh),ir t u=true↔t=u
 | .one n s,.one m r=>by
   rw[ir,Li,beq_iff_eq,Lc];constructor
   ·rintro⟨h1,h2⟩;rw[h1,h2]
   ·intro h;cases h;exact⟨rfl,rfl⟩
 | .one n s,.list u r=>by simp[ir]
 | .list t s,.one m r=>by simp[ir]
 | .list t s,.list u r=>by
   rw[ir,Li,beq_iff_eq,uF t u];constructor
   ·rintro⟨h1,h2⟩;rw[h1,h2]
   ·intro h;cases h;exact⟨rfl,rfl⟩
theorem Kb(t u:dh)(h1:fZ t)(h2:fZ u):decide (ci t=ci u)=ir t u:=by
 rw[Bool.eq_iff_iff,Lc,uF];constructor
 ·intro h
  apply uG t u h1 h2;rw[<-kW,<-kW,h]
 ·intro h;rw[h]
theorem Kw:∀(n:Nat) (l:List Tk),l.length<=n->dR l=rl l:=by
 intro n
 induction n with
 |zero=>
  intro l h;have:l=[]:=KZ (by omega);subst this;rw[dR,rl]
 |succ n ih=>
  intro l h
  match l,h with
  |[],_=>rw[dR,rl]
  |[t],_=>rw[dR,rl]
  |t::u::r,h=>
   simp only[Lm]at h;rw[dR,rl];split
   ·split
    ·rw[ih (r.drop 1) (by simp;omega)]
    ·split
     ·rw[ih r (by omega)]
     ·exact ih (u::r) (by simp;omega)
   ·exact ih (u::r) (by simp;omega)
def rm(l l':List Tk):Prop:=∃e,l=e++l'/\mc e/\∀r,mc r->cJ (e++r)=cJ r
theorem Dl(n g:Nat)(hU:∀(l l':List Tk),ln (some l)<=n->(cd g (some l)).2=some l'->rm l l'):
 ∀(m:Nat) (l l':List Tk),ln (some l)<=n->(eE (cd g) m (some l)).2=some l'->rm l l':=by
 intro m
 induction m with
 |zero=>
  intro l l' hn h;simp only[eE,Option.some.injEq]at h;subst h;exact⟨[],rfl,fun _ h=>by simp at h,fun r _=>by simp⟩
 |succ m ih=>
  intro l l' hn h;rw[eE]at h;by_cases hw:(aq (some l) dy||aq (some l) dW)=true
  ·rw[K9 hw]at h
   dsimp only at h;have hk:af (some l) 1=true:=by
    rcases(Bool.or_eq_true _ _▸hw:aq (some l) dy=true\/aq (some l) dW=true)with h|h<;>exact oQ _ _ h
   obtain⟨t,r0,hl,ht,htl,hhd⟩:=p9 l 1 (by decide) hk;have hts:t.s≠cm:=by
    intro e;have e2:(hd (some l)).s=cm:=by rw[hhd];exact e
    rcases(Bool.or_eq_true _ _▸hw:aq (some l) dy=true\/aq (some l) dW=true)with h|h
    ·unfold aq at h;rw[e2]at h;simp only[Li,Lc]at h;exact absurd h.2 (by decide)
    ·unfold aq at h;rw[e2]at h;simp only[Li,Lc]at h;exact absurd h.2 (by decide)
   rw[htl]at h;cases hp:(cd g (some r0)).2 with
   |none=>
    rw[hp]at h;have:(eE (cd g) m none).2=none:=by
     cases m with
     |zero=>rfl
     |succ m=>rw[eE,jG,jG];rfl
    rw[this]at h;cases h
   |some l2=>
    rw[hp]at h;subst hl;have hn0:ln (some r0)<=n:=by simp[ln]at hn⊢;omega
    obtain⟨e2,h2,n2,s2⟩:=hU r0 l2 hn0 hp;have hn2:ln (some l2)<=n:=by subst h2;simp[ln]at hn⊢;omega
    obtain⟨e3,h3,n3,s3⟩:=ih l2 l' hn2 h;refine⟨t::(e2++e3),by rw[h2,h3];simp,fun u hu=>?_,fun r hr=>?_⟩
    ·simp at hu;subst hu;omega
    ·rw[List.cons_append,List.append_assoc,(rW t _ (n2.app (n3.app hr)) hts).2,s2 _ (n3.app hr),s3 r hr]
  ·rw[K8 hw]at h
   simp only[Option.some.injEq]at h;subst h;exact⟨[],rfl,fun _ h=>by simp at h,fun r _=>by simp⟩
theorem Bo(n g:Nat)(hU:∀(l l':List Tk),ln (some l)<=n->(cd g (some l)).2=some l'->rm l l')
 (l l':List Tk) (hn:ln (some l)<=n) (h8:ln (some l)<=801) (h:(j4 g (some l)).2=some l'):rm l l':=by
 rw[tM g _ h8]at h;dsimp only at h;cases hp:(cd g (some l)).2 with
 |none=>
  rw[hp]at h;have:(eE (cd g) 801 none).2=none:=by rw[eE,jG,jG];rfl
  rw[this]at h;cases h
 |some l2=>
  rw[hp]at h;obtain⟨e2,h2,n2,s2⟩:=hU l l2 hn hp;have hn2:ln (some l2)<=n:=by subst h2;simp[ln]at hn⊢;omega
  obtain⟨e3,h3,n3,s3⟩:=Dl n g hU 801 l2 l' hn2 h;refine⟨e2++e3,by rw[h2,h3];simp,n2.app n3,fun r hr=>?_⟩;rw[List.append_assoc,s2 _ (n3.app hr),s3 r hr]
theorem FH:∀(n g:Nat) (l l':List Tk),n<=g->n<=801->ln (some l)<=n->(cd g (some l)).2=some l'->rm l l':=by
 intro n
 induction n with
 |zero=>intro g l l' _ _ h;simp[ln]at h
 |succ n ih=>
  intro g l l' hg h8 hn h;obtain⟨g',rfl⟩:∃g',g=g'+1:=⟨g-1,by omega⟩;rw[pn]at h;by_cases h7:af (some l) 7=true
  ·rw[K9 h7]at h
   dsimp only at h;obtain⟨t,r0,hl,ht,htl,hhd⟩:=p9 l 7 (by decide) h7;rw[htl]at h;obtain⟨u,hu,hk⟩:=th _ l' 8 (by decide) h;subst hl;have hn0:ln (some r0)<=n:=by simp[ln]at hn⊢;omega
   obtain⟨e,he,ne,se⟩:=Bo n g' (fun a b h1 h2=>ih g' a b (by omega) (by omega) h1 h2) r0 (u::l') hn0 (by omega) hu;refine⟨t::(e++[u]),by rw[he];simp,fun x hx=>?_,fun r hr=>?_⟩
   ·simp at hx;subst hx;omega
   ·have n8:mc (u::r):=by intro x hx;simp at hx;subst hx;omega
    have e1:=se (u::r) n8;rw[(vd u r (by omega)).2]at e1;rw[List.cons_append,(vd t _ (by omega)).2,List.append_assoc];exact e1
  ·rw[K8 h7]at h
   by_cases hN:nm (some l)=dc
   ·rw[K9 hN]at h
    cases hx:ab (some l)with
    |none=>rw[hx,pY]at h;cases h
    |some r0=>
     rw[hx]at h;obtain⟨t,hl,ht,hs⟩:=mG l r0 hx;subst hl;have hn0:ln (some r0)<=n:=by simp[ln]at hn⊢;omega
     obtain⟨e,he,ne,se⟩:=ih g' r0 l' (by omega) (by omega) hn0 h;refine⟨t::e,by rw[he];simp,fun x hx=>?_,fun r hr=>?_⟩
     ·simp at hx;subst hx;omega
     ·rw[List.cons_append,(rW t _ (ne.app hr) (by rw[<-hs,hN];decide)).2]
      exact se r hr
   ·rw[K8 hN]at h
    by_cases hA:nm (some l)=dX
    ·rw[K9 hA]at h
     dsimp only at h;obtain⟨t,hl,ht,hs⟩:=mG l l' h;refine⟨[t],by rw[hl];rfl,fun x hx=>?_,fun r hr=>?_⟩
     ·simp at hx;subst hx;omega
     ·exact(rW t r hr (by rw[<-hs,hA];decide)).2
    ·rw[K8 hA]at h
     by_cases hI:nm (some l)=cm
     ·rw[K9 hI]at h
      dsimp only at h;cases hx:ab (some l)with
      |none=>rw[hx,mH]at h;cases h
      |some r0=>
       rw[hx]at h;obtain⟨t,hl,ht,hs⟩:=mG l r0 hx;obtain⟨u,hl2,hu,hs2⟩:=mG r0 l' h;refine⟨[t,u],by rw[hl,hl2];rfl,fun x hx=>?_,fun r hr=>?_⟩
       ·simp at hx;subst hx;omega
       ·show cJ (t::u::r)=cJ r
        rw[(A8 t u r ht (by omega) (by rw[<-hs,hI])).2,Le hu,Bool.true_and]
     ·rw[K8 hI]at h
      dsimp only at h;cases hm:ak (ab (some l)) (af (ab (some l)) 10)with
      |none=>rw[hm,yw]at h;cases h
      |some r1=>
       rw[hm]at h;obtain⟨u,hu,huk⟩:=th _ r1 10 (by decide) hm;obtain⟨t,hl,ht,hs⟩:=mG l _ hu;obtain⟨v,hv⟩:=xV r1 l' h;refine⟨[t,u,v],by rw[hl,hv];rfl,fun x hx=>?_,fun r hr=>?_⟩
       ·simp at hx;subst hx;omega
       ·show cJ (t::u::v::r)=cJ r
        rw[(xX t u (v::r) ht huk).2];rfl
theorem D5(g:Nat)(hg:801<=g)(l l':List Tk)(h8:ln (some l)<=801)(h:(j4 g (some l)).2=some l'):
 cJ (iy (some l) (some l'))=true:=by
 obtain⟨e,he,ne,se⟩:=Bo 801 g (fun a b h1 h2=>FH 801 g a b hg (by omega) h1 h2) l l' h8 h8 h;have e0:=se [] (fun x hx=>by simp at hx);have e1:iy (some l) (some l')=e:=by
  unfold iy;rw[he];simp
 rw[e1];rw[List.append_nil]at e0;rw[e0,cJ]
theorem J3(s:St)(hl:ln s<=801)(h:(ey s).2≠none):cJ (jo s).1=true/\(jo s).1.length<=801/\∀t∈(jo s).1,t∈s.getD []:=by
 unfold jo;unfold ey at h;cases hk:af s 11
 ·simp only[Lj,if_false]
  refine⟨by rw[cJ],by simp,fun t ht=>by simp at ht⟩
 ·simp only[hk,if_true]at h⊢
  have hl2:ln (ed (tl s))<=801:=KP (cg _ _) (KP (cg _ _) (KP (cK _) hl));have hst:=sF (ed (tl s)) 802 (by decide) hl2;have Mo:∀t∈(ed (tl s)).getD [],t∈s.getD []:=by
   have h1:∀(a:St),∀t∈(tl a).getD [],t∈a.getD []:=by
    intro a t ht
    match a,ht with
    |none,ht=>exact ht
    |some [],ht=>exact ht
    |some (x::l),ht=>exact List.mem_cons_of_mem _ ht
   have h2:∀(a:St) (b:Bool),∀t∈(ak a b).getD [],t∈a.getD []:=by
    intro a b t ht;unfold ak at ht;split at ht
    ·exact h1 a t ht
    ·simp at ht
   intro t ht;unfold ed at ht;exact h1 _ _ (h2 _ _ _ (h2 _ _ _ ht))
  show cJ (iy (ed (tl s)) (ja (ed (tl s))))=true/\(iy (ed (tl s)) (ja (ed (tl s)))).length<=801/\∀t∈iy (ed (tl s)) (ja (ed (tl s))),t∈s.getD [];generalize ed (tl s)=s5 at h hl2 hst Mo⊢;rw[<-hst];cases hp:(j4 802 s5).2 with
  |none=>rw[hp,j8]at h;exact absurd rfl h
  |some l'=>
   cases s5 with
   |none=>
    rw[hp]at hst;have e:ja none=none:=rh 801;rw[e]at hst;cases hst
   |some l=>
    refine⟨D5 802 (by decide) l l' hl2 hp,?_,?_⟩
    ·have:ln (some l)=l.length+1:=rfl
     unfold iy;rw[List.length_take];omega
    ·intro t ht
     unfold iy at ht;exact Mo t (List.mem_of_mem_take ht)
def aG(b a:St):Prop:=∀t∈b.getD [],t∈a.getD []
theorem aG.refl(a:St):aG a a:=fun _ h=>h
theorem aG.trans{a b c:St}(h:aG a b)(k:aG b c):aG a c:=fun t ht=>k t (h t ht)
theorem aG.none(a:St):aG none a:=fun t ht=>by simp at ht
theorem je(s:St):aG (tl s) s:=by
 intro t ht
 match s,ht with
 |Option.none,ht=>exact ht
 |some [],ht=>exact ht
 |some (x::l),ht=>exact List.mem_cons_of_mem _ ht
theorem dY(s:St):aG (ab s) s:=by
 unfold ab;split
 ·exact je s
 ·exact aG.none _
theorem ju(s:St)(b:Bool):aG (ak s b) s:=by
 unfold ak;split
 ·exact je s
 ·exact aG.none _
theorem Cp(s:St)(b:Bool):aG (ec s b) s:=by
 unfold ec;split
 ·exact je s
 ·exact aG.refl _
theorem Ct(r:Ls)(s:St):aG (fT r s).2 s:=by
 unfold fT;refine aG.trans (ju _ _) (aG.trans (dY _) (aG.trans (ju _ _) ?_));split
 ·exact aG.refl _
 ·exact aG.none _
theorem GL(a h:Ls)(s:St):aG (gp a h s).2 s:=by
 unfold gp;split
 ·exact aG.trans (Ct _ _) (dY _)
 ·split
  ·exact aG.trans (Ct _ _) (dY _)
  ·exact aG.none _
theorem yl:∀(f:Nat) (s:St),aG (bU f s).2 s
 |0,s=>aG.refl _
 |f+1,s=>by
  rw[bU];split
  ·exact aG.trans (Cp _ _) (aG.trans (ju _ _) (aG.trans (yl f (tl s)) (je s)))
  ·exact aG.trans (Cp _ _) (dY s)
theorem Kr(s:St):aG (jS s).2 s:=by
 unfold jS;refine aG.trans (ju _ _) (aG.trans (ju _ _) ?_);unfold jf;split
 ·exact dY s
 ·split
  ·exact dY s
  ·exact aG.none _
theorem C3(s:St):aG (ee s).2 s:=by
 unfold ee;split
 ·exact aG.trans (ju _ _) (aG.trans (Kr _) (je s))
 ·exact aG.refl _
theorem zq:∀(f:Nat) (s:St) (a h:Ls),aG (fo f s a h).2 s
 |0,s,a,h=>aG.refl _
 |f+1,s,a,h=>by
  rw[fo];split
  ·exact aG.trans (zq f _ _ _) (aG.trans (GL _ _ _) (je s))
  ·exact aG.refl _
theorem tB(s:St):aG (bL s).2 (ab s):=by
 unfold bL;exact aG.trans (zq _ _ _ _) (aG.trans (yl _ _) (by unfold iu;exact aG.trans (ju _ _) (C3 _)))
theorem BK:∀(f:Nat) (s:St),aG (dv f s).2 s
 |0,s=>aG.refl _
 |f+1,s=>by
  rw[dv];split
  ·exact aG.trans (BK f _) (aG.trans (tB s) (dY s))
  ·exact aG.refl _
theorem ye(s:St):aG (dC s).2 s:=by
 unfold dC;exact aG.trans (ju _ _) (aG.trans (BK _ _) (aG.trans (tB _) (aG.trans (dY _) (ju _ _))))
theorem zU(word:Ls)(part:St->List cw×St)(hp:∀s,aG (part s).2 s):∀(f:Nat) (acc:List (List cw)) (s:St),aG (jT word part f acc s).2 s
 |0,_,_=>aG.refl _
 |f+1,acc,s=>by
  rw[jT];split
  ·exact aG.trans (zU word part hp f _ _) (aG.trans (hp _) (je s))
  ·exact aG.refl _
theorem sX(word:Ls)(part:St->List cw×St)(hp:∀s,aG (part s).2 s)(s:St):aG (chain word part s).2 s:=
 aG.trans (zU word part hp _ _ _) (hp s)
theorem Gv(s:St):aG (iZ s) s:=by
 unfold iZ;split
 ·exact je s
 ·unfold iH
  split
  ·exact je s
  ·split
   ·exact je s
   ·split
    ·unfold lm
     split
     ·exact je s
     ·split
      ·exact je s
      ·split
       ·exact je s
       ·exact aG.none _
    ·exact aG.none _
theorem ww:∀(f:Nat) (s:St),aG (cd f s).2 s
 |0,s=>aG.refl _
 |f+1,s=>by
  rw[pn];split
  ·exact aG.trans (ju _ _) (aG.trans (sX _ _ (sX _ _ (ww f)) _) (je s))
  ·split
   ·exact aG.trans (ww f _) (dY s)
   ·split
    ·exact dY s
    ·split
     ·exact aG.trans (dY _) (dY s)
     ·exact aG.trans (Gv _) (aG.trans (ju _ _) (dY s))
theorem z9:∀(f:Nat) (s:St),aG (eH f s).2 s
 |0,s=>aG.refl _
 |f+1,s=>by
  rw[eH];split
  ·exact aG.trans (z9 f _) (dY s)
  ·exact aG.refl _
theorem JW(s:St):aG (fB s).2 s:=by
 unfold fB;split
 ·unfold mq
  simp only[];split
  ·exact aG.none _
  ·exact aG.trans (z9 _ _) (aG.trans (je _) (dY s))
 ·exact dY s
theorem zt:∀(f:Nat) (s:St),aG (eT f s).2 s
 |0,s=>aG.refl _
 |f+1,s=>by
  rw[eT];split
  ·exact aG.trans (zt f _) (dY s)
  ·exact aG.refl _
theorem zp(s:St):aG (dH s).2 s:=by
 unfold dH;split
 ·exact aG.trans (zt _ _) (aG.trans (dY _) (je s))
 ·exact aG.refl _
theorem yN(s:St):aG (ey s).2 s:=by
 unfold ey;split
 ·refine aG.trans (ju _ _) (aG.trans (sX _ _ (sX _ _ (ww _)) _) ?_)
  unfold ed;exact aG.trans (ju _ _) (aG.trans (ju _ _) (je s))
 ·exact aG.refl _
theorem Hf(s:St):aG (cn s).2 s:=by
 unfold cn;dsimp only;exact aG.trans (ye _) (aG.trans (yN _) (aG.trans (zp _) (dY s)))
theorem BU:∀(f:Nat) (s:St),aG (eS f s).2 s
 |0,s=>aG.refl _
 |f+1,s=>by
  rw[eS];split
  ·exact aG.trans (BU f _) (aG.trans (dY _) (je s))
  ·exact aG.refl _
theorem Hl(s:St):aG (fM s).2 s:=by
 unfold fM;exact aG.trans (BU _ _) (aG.trans (dY _) (ju _ _))
theorem sK(c:b9)(s:St):aG (bX c s).2 (ab s):=by
 unfold bX;split
 ·dsimp only
  exact JW _
 ·split
  ·dsimp only
   exact Hf _
  ·split
   ·dsimp only
    exact aG.trans (ye _) (dY _)
   ·split
    ·dsimp only
     exact aG.trans (Hl _) (dY _)
    ·exact aG.none _
theorem aG.wd{a b:St}(h:aG b a)(ha:jc a):jc b:=fun t ht=>ha t (h t ht)
theorem jc.wf{s:St}(h:jc s):jL s:=fun t ht=>(h t ht).1
theorem AR:∀(f:Nat) (s:St),ln s<=f->jc s->(bU f s).2≠none->fZ (bU f s).1/\(ci (bU f s).1).size<=4001+3*f
 |0,s,hl,_,h=>by
  match s,hl,h with
  |none,_,h=>exact absurd rfl h
  |some l,hl,_=>simp[ln]at hl
 |f+1,s,hl,hw,h=>by
  rw[bU]at h⊢;by_cases hk:af s 12=true
  ·rw[K9 hk]at h⊢
   dsimp only at h⊢;have h1:=eY s 12 (by decide) hk;have h2:(bU f (tl s)).2≠none:=by
    intro e;rw[e,j8,uJ]at h;exact h rfl
   obtain⟨a,b⟩:=AR f (tl s) (by omega) (JK s hw) h2;refine⟨a,?_⟩;rw[ci];split
   ·simp only[ByteArray.size_append]
    have e1:(⟨#[91]⟩:Ls).size=1:=rfl;have e2:(⟨#[93]⟩:Ls).size=1:=rfl;have e3:(⟨#[33]⟩:Ls).size=1:=rfl;omega
   ·simp only[ByteArray.size_append]
    have e1:(⟨#[91]⟩:Ls).size=1:=rfl;have e2:(⟨#[93]⟩:Ls).size=1:=rfl;omega
  ·rw[K8 hk]at h⊢
   dsimp only at h⊢;have h2:ab s≠none:=by
    intro e;rw[e,uJ]at h;exact h rfl
   have hs:=kS s hw.wf;refine⟨zd s hw h2,?_⟩;rw[ci];split
   ·rw[ByteArray.size_append]
    have e3:(⟨#[33]⟩:Ls).size=1:=rfl;omega
   ·omega
structure iU(f:ax):Prop where
 ty:fZ f.ty
 size:(ci f.ty).size<=100000
 scal:f.scalar=oj f.arg
theorem Fr(s:St):(ee s).1.2=oj (ee s).1.1:=by
 unfold ee;split
 ·rfl
 ·rfl
theorem Gp(s:St):ln (iu s)<=ln s:=by
 unfold iu;refine KP (cg _ _) (KP ?_ (bH s));rw[<-(Bd (ab s)).1];exact yV _
theorem BR(s:St)(hl:ln s<=801)(hw:jc s)(h:(bL s).2≠none):iU (bL s).1:=by
 unfold bL at h⊢;dsimp only at h⊢;have h1:(bU 802 (iu s)).2≠none:=by
  intro e;rw[e,rG]at h;exact h rfl
 have Mo:aG (iu s) s:=by
  unfold iu;exact(ju _ _).trans ((C3 _).trans (dY s))
 obtain⟨a,b⟩:=AR 802 (iu s) (by have:=Gp s;omega) (Mo.wd hw) h1;exact⟨a,KP b (by decide),Fr _⟩
theorem zx:∀(f:Nat) (s:St),ln s<=801->jc s->(dv f s).2≠none->∀x∈(dv f s).1,iU x
 |0,s,_,_,_,x,hx=>by simp[dv]at hx
 |f+1,s,hl,hw,h,x,hx=>by
  rw[dv]at h hx;by_cases hk:af s 1=true
  ·rw[K9 hk]at h hx
   dsimp only at h hx;have h1:(bL s).2≠none:=by
    intro e;rw[e,p6 f none (eP 1 (by decide))]at h;exact h rfl
   rcases List.mem_cons.1 hx with e|e
   ·rw[e];exact BR s hl hw h1
   ·have hle:ln (bL s).2<=801:=KP (np s) (KP (bH s) hl)
    exact zx f _ hle (((tB s).trans (dY s)).wd hw) h x e
  ·rw[K8 hk]at hx
   simp at hx
theorem zW(s:St)(hl:ln s<=801)(hw:jc s)(h:(dC s).2≠none):∀x∈(dC s).1,iU x:=by
 unfold dC at h⊢;dsimp only at h⊢;have hl1:ln (ak s (af s 14))<=801:=KP (cg _ _) hl;have hw1:=(ju s (af s 14)).wd hw;generalize ak s (af s 14)=s1 at*;have h2:(dv 801 (bL s1).2).2≠none:=by
  intro e;rw[e,j8]at h;exact h rfl
 have h1:(bL s1).2≠none:=by
  intro e;rw[e,p6 801 none (eP 1 (by decide))]at h2;exact h2 rfl
 intro x hx;rcases List.mem_cons.1 hx with e|e
 ·rw[e];exact BR s1 hl1 hw1 h1
 ·have hle:ln (bL s1).2<=801:=KP (np s1) (KP (bH s1) hl1)
  exact zx 801 _ hle (((tB s1).trans (dY s1)).wd hw1) h2 x e
theorem vH:∀(f:Nat) (s:St),(eX f s).1.length<=f
 |0,s=>by simp[eX]
 |f+1,s=>by
  rw[eX];split
  ·simp
  ·split
   ·simp
   ·simp only[Lm]
    have:=vH f (eh s).2;omega
theorem Cx:∀(f:Nat) (s:St),(fV f s).1.length<=f
 |0,s=>by simp[fV]
 |f+1,s=>by
  rw[fV];split
  ·simp
  ·split
   ·simp only[Lm]
    have:=Cx f (ab s);omega
   ·simp
theorem CD:∀(f:Nat) (s:St),(fg f s).1.length<=f
 |0,s=>by simp[fg]
 |f+1,s=>by
  rw[fg];split
  ·simp
  ·split
   ·simp only[Lm]
    have:=CD f (tl (ab s));omega
   ·simp
theorem xQ{l:List ax}(h:∀x∈l,iU x):∀f∈l.map dg,0<f.ty.size/\f.ty.size<=100000:=by
 intro f hf;obtain⟨x,hx,e⟩:=List.mem_map.1 hf;subst e;have h1:=h x hx;refine⟨?_,h1.size⟩;show 0<(ci x.ty).data.size;have e:(ci x.ty).data.toList=dE x.ty:=kW _;rw[<-Array.length_toList,e];cases hx2:x.ty with
 |one n st=>
  have:=h1.ty;rw[hx2]at this;have h0:0<n.data.size:=this.1;rw[dE,Lb,Array.length_toList];omega
 |list u st=>rw[dE];simp
inductive PD where
 |o (x:aH)
 |i (x:bC)
 |u (x:bB)
def PD.name:PD->Ls
 | .o x=>x.name
 | .i x=>x.name
 | .u x=>x.name
def PD.isO:PD->Option aH
 | .o x=>some x
 |_=>none
def PD.isI:PD->Option bC
 | .i x=>some x
 |_=>none
def PD.isU:PD->Option bB
 | .u x=>some x
 |_=>none
def fG(d:ap):PD->Prop
 | .o x=>d.sort=0/\d.name=x.name/\d.fields=x.fields.map dg/\d.Ly=x.LE/\d.LC=x.Lw.isSome/\rl d.Lw=x.Lw.getD []/\∀f∈x.fields,iU f
 | .i x=>d=⟨1,x.name,x.fields.map dg,[],false,[]⟩/\∀f∈x.fields,iU f
 | .u x=>d=⟨2,x.name,[],x.LB,false,[]⟩
inductive F2{α β:Type}(R:α->β->Prop):List α->List β->Prop
 |nil:F2 R [] []
 |cons {a:α} {b:β} {l:List α} {m:List β}:R a b->F2 R l m->F2 R (a::l) (b::m)
theorem F2.snoc{α β:Type}{R:α->β->Prop}{a:α}{b:β}{l:List α}{m:List β}(h:F2 R l m)(hr:R a b):F2 R (l++[a]) (m++[b]):=by
 induction h with
 |nil=>exact F2.cons hr F2.nil
 |cons h1 _ ih=>exact F2.cons h1 ih
structure lp(c:b9)(d:eG):Prop where
 Lu:d.Lu=c.Lu
 ok:∀x∈d.Lv,mx x
 ex:∃M:List PD,c.Lx=M.filterMap PD.isO/\c.ifs=M.filterMap PD.isI/\c.uns=M.filterMap PD.isU/\c.names=M.map PD.name/\F2 fG d.Lv M
theorem lp.start:lp d8 iz:=⟨rfl,fun x hx=>by simp[iz]at hx,[],rfl,rfl,rfl,rfl,F2.nil⟩
theorem lp.add{c c':b9}{d:eG}{x:ap}{m:PD}(h:lp c d)(ho:mx x)(hr:fG x m)(h0:c'.Lu=c.Lu)(h1:c'.Lx=c.Lx++(PD.isO m).toList)(h2:c'.ifs=c.ifs++(PD.isI m).toList)(h3:c'.uns=c.uns++(PD.isU m).toList)(h4:c'.names=c.names++[m.name]):lp c' ⟨d.Lu,d.Lv++[x]⟩:=by
 obtain⟨M,m1,m2,m3,m4,m5⟩:=h.ex;refine⟨h.Lu.trans h0.symm,fun y hy=>?_,M++[m],?_,?_,?_,?_,m5.snoc hr⟩
 ·rcases List.mem_append.1 hy with e|e
  ·exact h.ok y e
  ·rw[List.mem_singleton]at e;rw[e];exact ho
 ·rw[h1,m1,List.filterMap_append];cases m<;>rfl
 ·rw[h2,m2,List.filterMap_append];cases m<;>rfl
 ·rw[h3,m3,List.filterMap_append];cases m<;>rfl
 ·rw[h4,m4,Lr];rfl
theorem xJ(c:b9)(d:eG)(s:St)(hl:ln s<=801)(hw:jc s)(h:lp c d)(hs:(bX c s).2≠none):lp (bX c s).1 (eB d s).1:=by
 have h1:ln (ab s)<=801:=KP (bH s) hl;have h2:ln (ab (ab s))<=801:=KP (bH _) h1;have w1:=(dY s).wd hw;have w2:=(dY _).wd w1;unfold bX at hs⊢;unfold eB;by_cases e1:nm s=oe
 ·rw[K9 e1]at hs⊢
  rw[K9 e1];dsimp only at hs⊢;obtain⟨M,m1,m2,m3,m4,m5⟩:=h.ex;exact⟨by rw[h.Lu,(Cd _ h1).2 hs],h.ok,M,m1,m2,m3,m4,m5⟩
 ·rw[K8 e1]at hs⊢
  rw[K8 e1];by_cases e2:nm s=oG
  ·rw[K9 e2]at hs⊢
   rw[K9 e2];dsimp only at hs⊢;have hag:=(ug _ h1).2 hs;have hsc:=IL _ h1 hs;rw[Kw _ _ (KK _)]at hsc;have hpo:(cn (ab s)).2=(dC (ey (dH (ab (ab s))).2).2).2:=by unfold cn;dsimp only
   have hpf:(cn (ab s)).1.fields=(dC (ey (dH (ab (ab s))).2).2).1:=by unfold cn;dsimp only
   have li:ln (dH (ab (ab s))).2<=801:=KP (qN _) h2;have lr:ln (ey (dH (ab (ab s))).2).2<=801:=KP (ss _) li;have wi:=(zp (ab (ab s))).wd w2;have wr:=(yN (dH (ab (ab s))).2).wd wi;rw[hpo]at hs;have hpr:(ey (dH (ab (ab s))).2).2≠none:=nw (oz _) hs;have hfw:=zW _ lr wr hs;rw[<-hpf]at hfw;obtain⟨k1,k2,k3⟩:=J3 _ li hpr;have hok:mx (fY (ab s)).1:=by
    refine⟨?_,?_,?_,?_,?_,?_,?_⟩
    ·rw[hag];exact KU _
    ·rw[hag];exact xQ hfw
    ·unfold fY gy
     dsimp only;exact vH 801 _
    ·unfold fY
     dsimp only;unfold lP;split
     ·exact Cx 801 _
     ·simp
    ·rw[hag];exact k2
    ·rw[hag];intro t ht;exact(wi t (k3 t ht)).1
    ·rw[hag];exact k1
   refine h.add (m:=.o (cn (ab s)).1) hok ?_ rfl rfl (by simp[PD.isI]) (by simp[PD.isU]) rfl;refine⟨by rw[hag],by rw[hag],by rw[hag],by rw[hag],by rw[hag],hsc,hfw⟩
  ·rw[K8 e2]at hs⊢
   rw[K8 e2];by_cases e3:nm s=pF
   ·rw[K9 e3]at hs⊢
    rw[K9 e3];dsimp only at hs⊢;have hag:=(uL _ h2).2 hs;have hfw:=zW _ h2 w2 hs;refine h.add (m:=.i ⟨nm (ab s),(dC (ab (ab s))).1⟩) ?_ ?_ rfl (by simp[PD.isO]) rfl (by simp[PD.isU]) rfl
    ·refine⟨Nat.le_succ 1,?_,?_,by simp,by simp,fun t ht=>by simp at ht,by rw[cJ]⟩
     ·dsimp only;rw[hag];exact xQ hfw
     ·dsimp only;unfold gy;exact vH 801 _
    ·exact⟨by rw[hag],hfw⟩
   ·rw[K8 e3]at hs⊢
    rw[K8 e3];by_cases e4:nm s=pA
    ·rw[K9 e4]at hs⊢
     rw[K9 e4];dsimp only at hs⊢;have hag:=(Bs _ h1).2 hs;refine h.add (m:=.u ⟨nm (ab s),(fM (ab (ab s))).1⟩) ?_ ?_ rfl (by simp[PD.isO]) (by simp[PD.isI]) rfl rfl
     ·refine⟨by rw[hag];exact KK 2,?_,?_,?_,?_,?_,?_⟩
      ·rw[hag];intro f hf;simp at hf
      ·rw[hag];simp
      ·unfold gm;dsimp only;exact CD 801 _
      ·rw[hag];simp
      ·rw[hag];intro t ht;simp at ht
      ·rw[hag];rw[cJ]
     ·exact hag
    ·rw[K8 e4]at hs
     exact absurd rfl hs
theorem CQ:∀(f:Nat) (c:b9) (d:eG) (s:St),ln s<=801->jc s->(s≠none->lp c d)->(gv f d s).2=(gH f c s).2/\((gH f c s).2≠none->lp (gH f c s).1 (gv f d s).1)
 |0,c,d,s,_,_,h=>⟨rfl,h⟩
 |f+1,c,d,s,hl,hw,h=>by
  rw[gv,gH];by_cases ha:eu s=true
  ·rw[K9 ha,K9 ha]
   exact⟨rfl,h⟩
  ·rw[K8 ha,K8 ha]
   have hs:s≠none:=by
    intro e;rw[e]at ha;exact ha rfl
   rw[pR d c s hl];refine CQ f _ _ _ ?_ ?_ ?_
   ·exact KP (oF c s) (KP (bH s) hl)
   ·exact((sK c s).trans (dY s)).wd hw
   ·intro hn
    exact xJ c d s hl hw (h hs) hn
theorem Ad(s:St):jv s=jW s:=by
 match s with
 |none=>rfl
 |some []=>rfl
 |some (t::l)=>rfl
theorem y8(f:Nat)(c:b9):gH f c none=(c,none):=AA f c none rfl
theorem xI(s:St)(h:af s 1=false):nm s=⟨#[]⟩:=by unfold nm;rw[h];rfl
theorem r8(s:St)(hl:ln s<=801)(hw:jc s):jv (cE s).2=jW (cc s).2/\(jW (cc s).2=true->lp (cc s).1 (cE s).1):=by
 by_cases ha:eu s=true
 ·have hp:(cc s).2=none:=by
   unfold cc;have hd:bX d8 s=(d8,none):=by
    have hn:nm s=⟨#[]⟩:=by
     apply xI
     match s,ha with
     |none,_=>rfl
     |some [],_=>rfl
    unfold bX;rw[hn,K8 (by decide),K8 (by decide),K8 (by decide),K8 (by decide)]
   rw[hd];dsimp only;rw[y8]
  have hr:(cE s).2=none:=by
   unfold cE;have e:o7 s=none:=by
    match s,ha with
    |none,_=>rfl
    |some [],_=>rfl
   rw[e,AM _ _ none rfl]
  rw[hp,hr];exact⟨rfl,fun h=>by cases h⟩
 ·have hs:s≠none:=by
   intro e;rw[e]at ha;exact ha rfl
  have e:cE s=gv 801 (eB iz s).1 (eB iz s).2:=by
   unfold cE;have e:o7 s=s:=by
    match s,ha with
    |none,ha=>rfl
    |some [],ha=>exact absurd rfl ha
    |some (t::l),_=>rfl
   rw[e,gv,K8 ha]
  have hd:=pR iz d8 s hl;have H:=CQ 801 (bX d8 s).1 (eB iz s).1 (bX d8 s).2 (KP (oF d8 s) (KP (bH s) hl)) (((sK d8 s).trans (dY s)).wd hw) (fun hn=>xJ d8 iz s hl hw lp.start hn);rw[e,hd];unfold cc;rw[H.1,Ad];refine⟨rfl,fun h=>H.2 ?_⟩;intro q;rw[q]at h;cases h
theorem F2.get{α β:Type}{R:α->β->Prop}{l:List α}{m:List β}(h:F2 R l m):∀(k:Nat) (a:α),l[k]?=some a->∃b,m[k]?=some b/\R a b:=by
 induction h with
 |nil=>intro k a hk;simp at hk
 |cons hr _ ih=>
  intro k a hk
  match k,hk with
  |0,hk=>simp at hk;subst hk;exact⟨_,rfl,hr⟩
  |k+1,hk=>exact ih k a (by simpa using hk)
theorem F2.all{α β:Type}{R:α->β->Prop}{l:List α}{m:List β}(h:F2 R l m){p:α->Bool}{q:β->Bool}(hpq:∀a b,R a b->p a=q b):l.all p=m.all q:=by
 induction h with
 |nil=>rfl
 |cons hr _ ih=>rw[List.all_cons,List.all_cons,hpq _ _ hr,ih]
theorem F2.map{α β γ:Type}{R:α->β->Prop}{l:List α}{m:List β}(h:F2 R l m){f:α->γ}{g:β->γ}(hfg:∀a b,R a b->f a=g b):l.map f=m.map g:=by
 induction h with
 |nil=>rfl
 |cons hr _ ih=>rw[List.map_cons,List.map_cons,hfg _ _ hr,ih]
theorem fG.name{d:ap}{m:PD}(h:fG d m):d.name=m.name:=by
 cases m with
 |o x=>exact h.2.1
 |i x=>rw[h.1];rfl
 |u x=>have:d=_:=h;rw[this];rfl
theorem jK(l:List Ls)(x:Ls):has l x=true↔x∈l:=by
 unfold has;rw[Lc];exact iT l x
theorem B7(Lu:List aj)(x:Ls):mV Lu x=jN (Lu.map aj.name) x:=by
 unfold mV jN has;congr 1;exact decide_eq_decide.2 (by omega)
theorem De(a b c:List Ls)(x:Ls):decide (aZ a b c x≠1)=!co x:=by
 unfold aZ;cases co x
 ·simp only[Lj,if_false,Bool.not_false]
  apply Le;split
  ·decide
  ·split
   ·decide
   ·split<;>decide
 ·simp
theorem FM(kind:Ls->Nat)(f:ax)(h:iU f)(hk:decide (kind (bN f.ty)≠1)=!co (bN f.ty)):pb (dg f)=jp kind f.arg f.ty:=by
 unfold pb jp dg;dsimp only;rw[tF _ h.ty,qV _ h.ty,hk];by_cases e1:f.arg=ik
 ·have e2:¬f.arg=mp:=by rw[e1];decide
  rw[K9 e1,Le e1,KT e2];cases mw f.ty<;>cases co (bN f.ty)<;>rfl
 ·rw[K8 e1,KT e1]
  by_cases e2:f.arg=mp
  ·rw[K9 e2,Le e2]
   cases mw f.ty<;>rfl
  ·rw[K8 e2,KT e2];rfl
theorem JZ(Lu:List aj)(names:List Ls)(kind:Ls->Nat)(f:ax)(h:iU f)(h0:decide (kind (bN f.ty)≠0)=(co (bN f.ty)||has names (bN f.ty)))(h1:decide (kind (bN f.ty)≠1)=!co (bN f.ty)):lf Lu names (dg f)=jM (Lu.map aj.name) kind f:=by
 unfold lf jM;rw[FM kind f h h1,h0,B7,B7];have e:kB (dg f).ty=bN f.ty:=tF _ h.ty;rw[e];show(!qk f.name&&(jN _ f.LG&&(jN _ f.LH&&((co (bN f.ty)||has names (bN f.ty))&&_))))=_;generalize (co (bN f.ty)||has names (bN f.ty))=a;generalize jN _ f.LG=b;generalize jN _ f.LH=c;cases a<;>cases b<;>cases c<;>simp
theorem zl(Lu:List aj)(names:List Ls)(kind:Ls->Nat)(l:List ax)(h:∀f∈l,iU f)(h0:∀x,decide (kind x≠0)=(co x||has names x))(h1:∀x,decide (kind x≠1)=!co x):(l.map dg).all (lf Lu names)=l.all (jM (Lu.map aj.name) kind):=by
 induction l with
 |nil=>rfl
 |cons f l ih=>
  rw[List.map_cons,List.all_cons,List.all_cons,JZ Lu names kind f (h f (by simp)) (h0 _) (h1 _),ih (fun g hg=>h g (by simp[hg]))]
theorem uz(l:List ax):(l.map dg).map bj.name=l.map ax.name:=by
 rw[List.map_map];rfl
theorem Fa(f:ax)(h:iU f):qS (dg f)=mZ f:=by
 unfold qS mZ dg;dsimp only;rw[tF _ h.ty,qV _ h.ty];cases co (bN f.ty)<;>cases mw f.ty<;>cases decide (f.arg=bE)<;>cases decide (f.LG=bE)<;>cases decide (f.LH=bE)<;>rfl
theorem Kx(l:List ax)(h:∀f∈l,iU f)(n:Ls):mQ (l.map dg) n=ml l n:=by
 unfold mQ ml;rw[uz];split
 ·rfl
 ·rw[La]
  cases hx:l[(ah (l.map ax.name) n).toNat]? with
  |none=>rfl
  |some f=>exact Fa f (h f (KN hx))
theorem Ez(rn:List Ls)(l:List ax)(h:∀f∈l,iU f)(x:cw):gX rn (l.map dg) x=hZ rn l x:=by
 unfold gX hZ;split
 ·rfl
 ·exact Kx l h x.2
theorem G9(f g:ax)(hf:iU f)(hg:iU g):oJ (dg g) (dg f)=oK f g:=by
 unfold oJ oK dg;dsimp only;rw[Kb _ _ hg.ty hf.ty,bY,bY,bY,bY,bY,Bool.eq_iff_iff];simp only[Li,Lc,uF];constructor
 ·rintro⟨h1,h2,h3,h4,h5⟩
  exact⟨h1.symm,h4.symm,h5.symm,h2.symm,by rw[hf.scal,hg.scal,h2],h3.symm⟩
 ·rintro⟨h1,h2,h3,h4,_,h6⟩
  exact⟨h1.symm,h4.symm,h6.symm,h2.symm,h3.symm⟩
theorem D6(l:List ax)(h:∀f∈l,iU f)(g:ax)(hg:iU g):kT (l.map dg) (dg g)=gd l g:=by
 unfold kT gd;rw[uz];show(if ah (l.map ax.name) g.name<0 then false else _)=_;split
 ·rfl
 ·rw[La]
  show(match (l[(ah (l.map ax.name) g.name).toNat]?).map dg with|some f=>oJ f (dg g)|none=>false)=_;cases hx:l[(ah (l.map ax.name) g.name).toNat]? with
  |none=>rfl
  |some f=>exact G9 g f hg (h f (KN hx))
theorem IE(l k:List ax)(h:∀f∈l,iU f)(hk:∀f∈k,iU f):(k.map dg).all (kT (l.map dg))=k.all (gd l):=by
 induction k with
 |nil=>rfl
 |cons g k ih=>rw[List.map_cons,List.all_cons,List.all_cons,D6 l h g (hk g (by simp)),ih (fun f hf=>hk f (by simp[hf]))]
theorem oW(M:List PD)(x:Ls):x∈(M.filterMap PD.isO).map aH.name↔∃o,PD.o o∈M/\o.name=x:=by
 rw[List.mem_map];constructor
 ·rintro⟨o,h,e⟩
  obtain⟨m,hm,hq⟩:=List.mem_filterMap.1 h;cases m with
  |o y=>simp[PD.isO]at hq;subst hq;exact⟨y,hm,e⟩
  |i y=>cases hq
  |u y=>cases hq
 ·rintro⟨o,h,e⟩
  exact⟨o,List.mem_filterMap.2 ⟨_,h,rfl⟩,e⟩
theorem pH(M:List PD)(x:Ls):x∈(M.filterMap PD.isI).map bC.name↔∃o,PD.i o∈M/\o.name=x:=by
 rw[List.mem_map];constructor
 ·rintro⟨o,h,e⟩
  obtain⟨m,hm,hq⟩:=List.mem_filterMap.1 h;cases m with
  |i y=>simp[PD.isI]at hq;subst hq;exact⟨y,hm,e⟩
  |o y=>cases hq
  |u y=>cases hq
 ·rintro⟨o,h,e⟩
  exact⟨o,List.mem_filterMap.2 ⟨_,h,rfl⟩,e⟩
theorem qj(M:List PD)(x:Ls):x∈(M.filterMap PD.isU).map bB.name↔∃o,PD.u o∈M/\o.name=x:=by
 rw[List.mem_map];constructor
 ·rintro⟨o,h,e⟩
  obtain⟨m,hm,hq⟩:=List.mem_filterMap.1 h;cases m with
  |u y=>simp[PD.isU]at hq;subst hq;exact⟨y,hm,e⟩
  |i y=>cases hq
  |o y=>cases hq
 ·rintro⟨o,h,e⟩
  exact⟨o,List.mem_filterMap.2 ⟨_,h,rfl⟩,e⟩
theorem mj(M:List PD)(hn:(M.map PD.name).Nodup){a b:PD}(ha:a∈M)(hb:b∈M)(h:a.name=b.name):a=b:=by
 obtain⟨i,hi⟩:=List.mem_iff_getElem?.1 ha;obtain⟨j,hj⟩:=List.mem_iff_getElem?.1 hb;have h1:(M.map PD.name)[i]?=some a.name:=by rw[La,hi];rfl
 have h2:(M.map PD.name)[j]?=some b.name:=by rw[La,hj];rfl
 have h3:=(List.getElem?_inj (KO.1 h1).1 hn).1 (h1.trans (by rw[h];exact h2.symm));subst h3;rw[hi]at hj;exact KY hj
def dF(M:List PD):Ls->Nat:=aZ ((M.filterMap PD.isO).map aH.name) ((M.filterMap PD.isI).map bC.name) ((M.filterMap PD.isU).map bB.name)
theorem xt(M:List PD)(x:Ls):decide (dF M x≠0)=(co x||has (M.map PD.name) x):=by
 unfold dF aZ;cases co x
 ·simp only[Lj,if_false,Bool.false_or]
  rw[Bool.eq_iff_iff];refine Iff.trans ?_ (jK _ _).symm;constructor
  ·intro h
   by_cases a:has ((M.filterMap PD.isO).map aH.name) x=true
   ·obtain⟨o,h1,h2⟩:=(oW M x).1 ((jK _ _).1 a)
    exact List.mem_map.2 ⟨_,h1,h2⟩
   ·rw[K8 a]at h
    by_cases b:has ((M.filterMap PD.isI).map bC.name) x=true
    ·obtain⟨o,h1,h2⟩:=(pH M x).1 ((jK _ _).1 b)
     exact List.mem_map.2 ⟨_,h1,h2⟩
    ·rw[K8 b]at h
     by_cases c:has ((M.filterMap PD.isU).map bB.name) x=true
     ·obtain⟨o,h1,h2⟩:=(qj M x).1 ((jK _ _).1 c)
      exact List.mem_map.2 ⟨_,h1,h2⟩
     ·rw[K8 c]at h;simp at h
  ·intro h
   obtain⟨m,h1,h2⟩:=List.mem_map.1 h;apply Le;cases m with
   |o y=>
    rw[K9 ((jK _ _).2 ((oW M x).2 ⟨y,h1,h2⟩))];decide
   |i y=>
    split
    ·decide
    ·rw[K9 ((jK _ _).2 ((pH M x).2 ⟨y,h1,h2⟩))];decide
   |u y=>
    split
    ·decide
    ·split
     ·decide
     ·rw[K9 ((jK _ _).2 ((qj M x).2 ⟨y,h1,h2⟩))];decide
 ·simp
theorem wt(M:List PD)(x:Ls)(h:¬x∈M.map PD.name):dF M x<=1:=by
 unfold dF aZ;split
 ·exact KK _
 ·rw[K8,K8,K8]
  ·exact KU _
  ·intro a
   obtain⟨o,h1,h2⟩:=(qj M x).1 ((jK _ _).1 a);exact h (List.mem_map.2 ⟨_,h1,h2⟩)
  ·intro a
   obtain⟨o,h1,h2⟩:=(pH M x).1 ((jK _ _).1 a);exact h (List.mem_map.2 ⟨_,h1,h2⟩)
  ·intro a
   obtain⟨o,h1,h2⟩:=(oW M x).1 ((jK _ _).1 a);exact h (List.mem_map.2 ⟨_,h1,h2⟩)
def PD.kind:PD->Nat
 | .o _=>2
 | .i _=>3
 | .u _=>4
theorem uo(M:List PD)(hn:(M.map PD.name).Nodup)(m:PD)(hm:m∈M)(hs:co m.name=false):dF M m.name=m.kind:=by
 unfold dF aZ;rw[hs];simp only[Lj,if_false];have ho:has ((M.filterMap PD.isO).map aH.name) m.name=true->∃y,m=.o y:=by
  intro a;obtain⟨o,h1,h2⟩:=(oW M _).1 ((jK _ _).1 a);exact⟨o,mj M hn hm h1 h2.symm⟩
 have hi:has ((M.filterMap PD.isI).map bC.name) m.name=true->∃y,m=.i y:=by
  intro a;obtain⟨o,h1,h2⟩:=(pH M _).1 ((jK _ _).1 a);exact⟨o,mj M hn hm h1 h2.symm⟩
 cases m with
 |o y=>rw[K9 ((jK _ _).2 ((oW M (PD.o y).name).2 ⟨y,hm,rfl⟩))];rfl
 |i y=>
  rw[K8 (fun a=>by obtain⟨z,e⟩:=ho a;cases e),K9 ((jK _ _).2 ((pH M (PD.i y).name).2 ⟨y,hm,rfl⟩))];rfl
 |u y=>
  rw[K8 (fun a=>by obtain⟨z,e⟩:=ho a;cases e),K8 (fun a=>by obtain⟨z,e⟩:=hi a;cases e),K9 ((jK _ _).2 ((qj M (PD.u y).name).2 ⟨y,hm,rfl⟩))];rfl
theorem Dk(M:List PD)(hn:(M.map PD.name).Nodup)(y:bC)(hm:PD.i y∈M):lA (M.filterMap PD.isI) y.name=y.fields:=by
 unfold lA;obtain⟨k,a,h1,h2,h3,_⟩:=j3 bC.name (M.filterMap PD.isI) y.name ((iT _ _).2 ((pH M _).2 ⟨y,hm,rfl⟩));rw[h1,Lk,h2];obtain⟨m,hm2,hq⟩:=List.mem_filterMap.1 (KN h2);cases m with
 |i z=>
  simp[PD.isI]at hq;subst hq;have:=mj M hn hm hm2 h3.symm;cases this;rfl
 |o z=>cases hq
 |u z=>cases hq
theorem wV(M:List PD)(hn:(M.map PD.name).Nodup)(y:aH)(hm:PD.o y∈M):¬ah ((M.filterMap PD.isO).map aH.name) y.name<0/\(M.filterMap PD.isO)[(ah ((M.filterMap PD.isO).map aH.name) y.name).toNat]?=some y:=by
 have h0:=(iT _ _).2 ((oW M y.name).2 ⟨y,hm,rfl⟩);refine⟨h0,?_⟩;obtain⟨k,a,h1,h2,h3,_⟩:=j3 aH.name (M.filterMap PD.isO) y.name h0;rw[h1,Lk,h2];obtain⟨m,hm2,hq⟩:=List.mem_filterMap.1 (KN h2);cases m with
 |o z=>
  simp[PD.isO]at hq;subst hq;have:=mj M hn hm hm2 h3.symm;cases this;rfl
 |i z=>cases hq
 |u z=>cases hq
theorem qE(Lv:List ap)(M:List PD)(h:F2 fG Lv M)(x:Ls):(ah (Lv.map ap.name) x<0/\¬x∈M.map PD.name)\/∃(k:Nat) (t:ap) (m:PD),ah (Lv.map ap.name) x=k/\Lv[k]?=some t/\m∈M/\fG t m/\m.name=x:=by
 have hnm:Lv.map ap.name=M.map PD.name:=h.map (fun a b hr=>fG.name hr);by_cases hx:ah (Lv.map ap.name) x<0
 ·left
  refine⟨hx,fun hm=>?_⟩;rw[<-hnm]at hm;exact(iT _ _).2 hm hx
 ·right
  obtain⟨k,t,h1,h2,h3,_⟩:=j3 ap.name Lv x hx;obtain⟨m,h4,h5⟩:=h.get k t h2;exact⟨k,t,m,h1,h2,KN h4,h5,by rw[<-fG.name h5,h3]⟩
theorem A4{α:Type}(l:List α)(p q:α->Bool):(l.all fun x=>p x&&q x)=(l.all p&&l.all q):=by
 induction l with
 |nil=>rfl
 |cons x l ih=>
  rw[List.all_cons,List.all_cons,List.all_cons,ih];cases p x<;>cases q x<;>cases l.all p<;>cases l.all q<;>rfl
theorem JA(Lv:List ap)(M:List PD)(h:F2 fG Lv M)(hn:(M.map PD.name).Nodup)(hs:∀m∈M,co m.name=false)(d:ap)(x:aH)(hd:fG d (.o x))(n:Ls):jB Lv d n=(decide (dF M n=3)&&(lA (M.filterMap PD.isI) n).all (gd x.fields)):=by
 obtain⟨d1,_,d3,_,_,_,d7⟩:=hd;rcases qE Lv M h n with⟨h1,h2⟩|⟨k,t,m,h1,h2,h3,h4,h5⟩
 ·rw[xe h1]
  have:=wt M n h2;rw[KT (by omega),Bool.false_and]
 ·rw[vl h1 h2,K8 (by rw[d1];decide)]
  have hk:=uo M hn m h3 (hs m h3);rw[h5]at hk;rw[hk];cases m with
  |o y=>
   rw[h4.1];rfl
  |i y=>
   have e:=h4.1;have hf:=Dk M hn y h3;rw[show y.name=n from h5]at hf;rw[hf,e,d3];show(true&&(y.fields.map dg).all (kT (x.fields.map dg)))=(true&&y.fields.all (gd x.fields));rw[IE _ _ d7 h4.2]
  |u y=>
   have e:t=_:=h4;rw[e];rfl
theorem EU(Lv:List ap)(M:List PD)(h:F2 fG Lv M)(hn:(M.map PD.name).Nodup)(hs:∀m∈M,co m.name=false)(d:ap)(hd:d.sort=2)(n:Ls):jB Lv d n=decide (dF M n=2):=by
 rcases qE Lv M h n with⟨h1,h2⟩|⟨k,t,m,h1,h2,h3,h4,h5⟩
 ·rw[xe h1]
  have:=wt M n h2;rw[KT (by omega)]
 ·rw[vl h1 h2,K9 hd]
  have hk:=uo M hn m h3 (hs m h3);rw[h5]at hk;rw[hk];cases m with
  |o y=>rw[h4.1];rfl
  |i y=>rw[h4.1];rfl
  |u y=>
   have e:t=_:=h4;rw[e];rfl
def uk(rn:List Ls)(M:List PD):PD->Bool
 | .o x=>jb rn (dF M) (M.filterMap PD.isI) x
 | .i x=>fu rn (dF M) x.fields
 | .u x=>fw (dF M) 2 x.LB
theorem DY(Lu:List aj)(Lv:List ap)(M:List PD)(h:F2 fG Lv M)(hn:(M.map PD.name).Nodup)(hs:∀m∈M,co m.name=false)(d:ap)(m:PD)(hd:fG d m):lI Lu Lv d=uk (Lu.map aj.name) M m:=by
 have hnm:Lv.map ap.name=M.map PD.name:=h.map (fun a b hr=>fG.name hr);have k0:∀x,decide (dF M x≠0)=(co x||has (Lv.map ap.name) x):=fun x=>by rw[hnm];exact xt M x
 have k1:∀x,decide (dF M x≠1)=!co x:=fun x=>De _ _ _ x;unfold lI;cases m with
 |o x=>
  have hab:d.Ly.all (jB Lv d)=(x.LE.all fun n=>decide (dF M n=3)&&(lA (M.filterMap PD.isI) n).all (gd x.fields)):=by
   rw[hd.2.2.2.1];congr 1;funext n;exact JA Lv M h hn hs d x hd n
  obtain⟨d1,d2,d3,d4,d5,d6,d7⟩:=hd;rw[hab,A4,d3,uz,nQ,nQ,zl Lu _ (dF M) x.fields d7 k0 k1,d4,d6];show _=jb _ _ _ x;unfold jb fu m9 fw;have hr:(x.Lw.getD []).all (gX (Lu.map aj.name) (x.fields.map dg))=pL (Lu.map aj.name) x.fields x.Lw:=by
   have e:(gX (Lu.map aj.name) (x.fields.map dg))=hZ (Lu.map aj.name) x.fields:=funext (Ez _ x.fields d7);rw[e];cases x.Lw<;>rfl
  rw[hr];cases x.fields.all (jM (Lu.map aj.name) (dF M))<;>cases dZ (x.fields.map ax.name)<;>cases dZ x.LE<;>cases (x.LE.all fun n=>decide (dF M n=3))<;>cases (x.LE.all fun n=>(lA (M.filterMap PD.isI) n).all (gd x.fields))<;>rfl
 |i x=>
  obtain⟨e,d7⟩:=hd;rw[e];dsimp only;rw[uz,nQ,nQ,zl Lu _ (dF M) x.fields d7 k0 k1,rl];show _=fu _ _ x.fields;unfold fu;simp[dZ]
 |u x=>
  have e:d=_:=hd;have hab:d.Ly.all (jB Lv d)=x.LB.all fun n=>decide (dF M n=2):=by
   have e1:d.Ly=x.LB:=by rw[e]
   rw[e1];congr 1;funext n;exact EU Lv M h hn hs d (by rw[e]) n
  rw[hab,e];dsimp only;rw[nQ,nQ,rl];show _=fw _ _ x.LB;unfold fw;simp[dZ]
theorem JN(rn:List Ls)(M N:List PD):N.all (uk rn M)=((N.filterMap PD.isO).all (jb rn (dF M) (M.filterMap PD.isI))&&(((N.filterMap PD.isI).all fun i=>fu rn (dF M) i.fields)&&((N.filterMap PD.isU).all fun u=>fw (dF M) 2 u.LB))):=by
 rw[Bool.eq_iff_iff];simp only[Li,Lh];constructor
 ·intro h
  refine⟨fun x hx=>?_,fun x hx=>?_,fun x hx=>?_⟩
  ·obtain⟨m,hm,hq⟩:=List.mem_filterMap.1 hx
   cases m with
   |o y=>simp[PD.isO]at hq;subst hq;exact h _ hm
   |i y=>cases hq
   |u y=>cases hq
  ·obtain⟨m,hm,hq⟩:=List.mem_filterMap.1 hx
   cases m with
   |i y=>simp[PD.isI]at hq;subst hq;exact h _ hm
   |o y=>cases hq
   |u y=>cases hq
  ·obtain⟨m,hm,hq⟩:=List.mem_filterMap.1 hx
   cases m with
   |u y=>simp[PD.isU]at hq;subst hq;exact h _ hm
   |i y=>cases hq
   |o y=>cases hq
 ·rintro⟨h1,h2,h3⟩ m hm
  cases m with
  |o y=>exact h1 y (List.mem_filterMap.2 ⟨_,hm,rfl⟩)
  |i y=>exact h2 y (List.mem_filterMap.2 ⟨_,hm,rfl⟩)
  |u y=>exact h3 y (List.mem_filterMap.2 ⟨_,hm,rfl⟩)
theorem F0(Lv:List ap)(M:List PD)(h:F2 fG Lv M)(hn:(M.map PD.name).Nodup):pK Lv=kh (M.filterMap PD.isO):=by
 have hno:(∀y,PD.o y∈M->y.name≠bQ)->kh (M.filterMap PD.isO)=false:=by
  intro hq;unfold kh;rw[K9];by_cases hx:ah ((M.filterMap PD.isO).map aH.name) kC<0
  ·exact hx
  ·obtain⟨y,h1,h2⟩:=(oW M _).1 ((iT _ _).1 hx)
   exact absurd h2 (hq y h1)
 rcases qE Lv M h bQ with⟨h1,h2⟩|⟨k,t,m,h1,h2,h3,h4,h5⟩
 ·rw[hno (fun y hy e=>h2 (List.mem_map.2 ⟨_,hy,e⟩))]
  unfold pK;rw[K9 h1]
 ·rw[BC h1 h2]
  cases m with
  |o y=>
   obtain⟨q1,q2⟩:=wV M hn y h3;rw[show y.name=kC from h5]at q1 q2;unfold kh;rw[K8 q1,q2,h4.1,h4.2.2.2.2.1];show(true&&!y.Lw.isSome)=y.Lw.isNone;cases y.Lw<;>rfl
  |i y=>
   rw[hno (fun z hz e=>by
    have:=mj M hn h3 hz (by rw[h5];exact e.symm);cases this)]
   rw[h4.1];rfl
  |u y=>
   rw[hno (fun z hz e=>by
    have:=mj M hn h3 hz (by rw[h5];exact e.symm);cases this)]
   have e:t=_:=h4;rw[e];rfl
theorem Jo(c:b9)(d:eG)(h:lp c d):kz d.Lu d.Lv=jz c:=by
 obtain⟨M,m1,m2,m3,m4,m5⟩:=h.ex;have hnm:d.Lv.map ap.name=M.map PD.name:=m5.map (fun a b hr=>fG.name hr);unfold kz jz;rw[h.Lu,GS,nQ,hnm,m4];cases hnb:mB (M.map PD.name)
 ·rw[Bool.false_and,Bool.and_false]
  unfold mB at hnb;cases hnd:dZ (M.map PD.name)
  ·rw[Bool.and_false,Bool.and_false,Bool.and_false]
  ·rw[hnd,Bool.and_true]at hnb
   have:d.Lv.all (mD c.Lu d.Lv)=false:=by
    cases hh:d.Lv.all (mD c.Lu d.Lv)
    ·rfl
    ·exfalso
     rw[Lh]at hh;have:((M.map PD.name).all fun x=>!co x)=true:=by
      rw[Lh,<-hnm];intro x hx;obtain⟨y,hy,e⟩:=List.mem_map.1 hx;have h1:=hh y hy;unfold mD at h1;rw[Li]at h1;rw[<-e];exact h1.1
     rw[this]at hnb;cases hnb
   rw[this,Bool.false_and,Bool.and_false,Bool.and_false]
 ·unfold mB at hnb
  rw[Li,Lh]at hnb;obtain⟨hsc,hnd⟩:=hnb;have hn:=(kR _).1 hnd;have hs:∀m∈M,co m.name=false:=by
   intro m hm;have:=hsc m.name (List.mem_map.2 ⟨m,hm,rfl⟩);simpa using this
  have hones:d.Lv.all (mD c.Lu d.Lv)=M.all (uk (c.Lu.map aj.name) M):=by
   have key:∀(l:List ap) (N:List PD),F2 fG l N->(∀m∈N,m∈M)->l.all (mD c.Lu d.Lv)=N.all (uk (c.Lu.map aj.name) M):=by
    intro l N hf
    induction hf with
    |nil=>intro _;rfl
    | @cons a b l N hr _ ih=>
      intro Mo;rw[List.all_cons,List.all_cons,ih (fun m hm=>Mo m (by simp[hm]))];unfold mD;rw[DY c.Lu d.Lv M m5 hn hs a b hr,fG.name hr,hs b (Mo b (by simp))];rfl
   exact key _ _ m5 (fun m hm=>hm)
  rw[hones,hnd,JN,F0 d.Lv M m5 hn,Bool.and_true,Bool.true_and,m1,m2,m3];have hk:oa c=dF M:=by unfold oa dF;rw[m1,m2,m3]
  rw[hk];generalize (M.filterMap PD.isO).all (jb (c.Lu.map aj.name) (dF M) (M.filterMap PD.isI))=b1;generalize ((M.filterMap PD.isI).all fun i=>fu (c.Lu.map aj.name) (dF M) i.fields)=b2;generalize ((M.filterMap PD.isU).all fun u=>fw (dF M) 2 u.LB)=b3;cases b1<;>cases b2<;>cases b3<;>cases kh (M.filterMap PD.isO)<;>rfl
theorem ph(x:Ls):ln (av x)<=801:=by
 cases hq:av x with
 |none=>exact KU _
 |some l=>
  have:=(oc x l hq).2;show l.length+1<=801;omega
theorem p8(x:Ls):jc (av x):=by
 cases hq:av x with
 |none=>exact Js
 |some l=>exact fun t ht=>⟨(oc x l hq).1 t ht,IS x l hq t ht⟩
theorem CA(x:Ls):lW x=iw x:=by
 obtain⟨h1,h2⟩:=r8 (av x) (ph x) (p8 x);unfold lW iw;rw[h1];cases hd:jW (cc (av x)).2
 ·rfl
 ·rw[Jo _ _ (h2 hd)]
theorem vS(x:Ls)(h:jv (cE (av x)).2=true):∀d∈(cE (av x)).1.Lv,mx d:=by
 obtain⟨h1,h2⟩:=r8 (av x) (ph x) (p8 x);rw[h1]at h;exact(h2 h).ok
theorem info92:(prog.info? 92).map (fun i=>(i.zero,i.size,i.bytes))=some (some (.agg #[.string ⟨#[]⟩,.slice none 0 0]),2,40):=by kernel_rfl
theorem info96:(prog.info? 96).map (fun i=>(i.zero,i.size,i.bytes))=some (some (.agg #[.int .i64 0,.string ⟨#[]⟩,.slice none 0 0,.slice none 0 0,.bool false,.slice none 0 0]),6,104):=by kernel_rfl
theorem uy:∀(l:List aj),(∀r∈l,r.LA.length<=801)->(fQ l).length<=l.length*801
 |[],_=>by simp[fQ]
 |r::l,h=>by
  unfold fQ;rw[List.flatMap_cons,Lb,Lm,Nat.add_mul];have h1:=uy l (fun x hx=>h x (by simp[hx]));have h2:=h r (by simp);unfold fQ at h1;omega
theorem Cb(ts:List Tk)(a:Nat):eu (some (ts.drop a))=decide (ts.length<=a):=by
 unfold eu;rw[Option.getD_some];by_cases h:ts.length<=a
 ·rw[Lp h,Le h];rfl
 ·rw[Lq (by omega),KT h];rfl
theorem RX.keep62{w w':World}{X S R:Nat}{vR vD:Value}{LR:List (aj×Value)}{LD:List (ap×Value×Value×Value)}{cs:Array Value}{fr:Nat×Nat}(h:RX w X S vR vD LR LD)(hk:ai R w w')(hb:w.heap[R]?=some (.cells cs 62 fr))(hR:R≠X):RX w' X S vR vD LR LD:=by
 have hst:∀T B,(62:TypeId)≠T->au T B w w':=fun T B hT=>au.of_keep hk hb hT;have hin:oI S w w':=⟨hst _ _ (by decide),hst _ _ (by decide),hst _ _ (by decide)⟩;exact⟨hk.at h.x (fun e=>hR e.symm),h.r.stays (hst _ _ (by decide)) (fun x hx=>lZ.stays hin hx),h.d.stays (hst _ _ (by decide)) (fun x hx=>lX.stays hin hx)⟩
theorem Jc(x:Ls)(w:World)(hs:x.size<=maxLen)(hokd:jv (cE (av x)).2=true->∀d∈(cE (av x)).1.Lv,mx d):
 Calls prog 23 #[.string x] w fun e w'=>∃a n c a' n' c',e=.returned (.tuple #[.agg #[.slice a n c,.slice a' n' c'],.int .i64 (lW x)])/\(lW x=0->gZ w' (.slice a n c) (cE (av x)).1.Lu/\i5 w' (.slice a' n' c') (cE (av x)).1.Lv)/\Lt w w':=by
 have hc:=fun o=>zE x (w.alloc o) hs;have HCK:=aa (show lW x=if jv (cE (av x)).2=true then(if kz (cE (av x)).1.Lu (cE (av x)).1.Lv=true then 0 else 2)else 1 from rfl);have HOKD:=aa hokd;clear hokd;have HCO:=aa (oc x);obtain⟨iR,hiR,zR0,zR1,zR2⟩:=info_parts info92;obtain⟨iD,hiD,zD0,zD1,zD2⟩:=info_parts info96;generalize lW x=FF at*;go_enter func23,ntmps23;go_wp2_with fail;refine(hc _).mono ?_;clear hc;rintro e w1 ⟨vL,b,ts,rfl,hb1,LJ,hcut⟩;obtain⟨aL,MN,hvL⟩:=bc LJ;subst hvL;have Oz:=aa ((hb1.block _ (by simp)).trans (mX w (.cells #[.slice none 0 0,.slice none 0 0] 62)));have Nq:w.heap.size+1<=w1.heap.size:=by have:=hb1.size;simp at this;omega
 have Mq:=aa (iJ LJ (KU _));have HB1:=aa (show Lt w w1 from((KL _ _).alloc (KK _) _).trans (hb1.mono (by simp)));clear hb1 LJ;cases b
 ·have HN:=aa (show av x=none from hcut)
  have HF:=aa (show FF=1 from by rw[HCK.o,HN.o];rfl);clear hcut;go_wp2_with fail;have Nc:=aa (((di w1 (.cells #[.slice aL ts.length MN,.int .i64 0,.bool true,.int .i64 0] 89) (.cells #[.slice none 0 0,.slice none 0 0] 62)).block _ (by omega)).trans Oz.o);have c2:((w1.alloc (.cells #[.slice aL ts.length MN,.int .i64 0,.bool true,.int .i64 0] 89)).alloc (.cells #[.slice none 0 0,.slice none 0 0] 62)).cell? ⟨w1.heap.size,2,none⟩=some (.bool true):=ae (ig _ _ _) 2;go_loopg [8,9,10,11,12] 0 (fun k v8 v9 v10 v11 v12 wr=>wr.cell? ⟨w1.heap.size,2,none⟩=some (.bool true)/\wr.heap[w.heap.size]?=some (.cells #[.slice none 0 0,.slice none 0 0] 62)/\Lt w wr)
  case atStart=>exact⟨c2,Nc.o,HB1.o.trans ((di w1 _ _).mono HB1.o.size)⟩
  case round=>
   clear c2;obtain⟨c2,Mp,hbw⟩:=hrel;have Mf:=aa Mp;have HBW:=aa hbw;clear Mp hbw;go_wp2_with fail;go_quiet (fail);go_wp2_with fail;refine(uZ _ _ (by simpa using c2)).mono ?_;rintro e w3 ⟨rfl,hb3⟩;have HBN:=aa ((below_drewN HBW.o nq).trans (hb3.mono (below_drewN HBW.o nq).size));have LY:w3.heap[w.heap.size]?=some (.cells #[.slice none 0 0,.slice none 0 0] 62 (0,0)):=(hb3.block _ (ag Mf.o)).trans Mf.o;have r0:w3.cell? ⟨w.heap.size,0,none⟩=some (.slice none 0 0):=ae LY 0;have r1:w3.cell? ⟨w.heap.size,1,none⟩=some (.slice none 0 0):=ae LY 1;have rf:∀j,w3.frozen? ⟨w.heap.size,j,none⟩=false:=fun j=>ar LY j;clear LY;go_wp2_with fail;refine bodyPost_ret (v:=.tuple #[.agg #[.slice none 0 0,.slice none 0 0],.int .i64 1]) (by simp[results,results23,go_sem,r0,r1]) rfl ⟨_,_,_,_,_,_,by rw[HF.o];rfl,fun e=>(by rw[HF.o]at e;cases e),(HBN.o.setCell (KK _) _).setCell (KK _) _⟩
 ·have HN:=aa (show av x=some ts from hcut)
  clear hcut;obtain⟨hwf,Me⟩:=HCO.o ts HN.o;obtain⟨bad,MA⟩:∃bad,((ts.length:Int)==0)=bad:=⟨_,rfl⟩;have HS0:=aa (show o7 (some ts)=(if bad=true then none else some ts)from by
   rw[<-MA];cases ts with
   |nil=>rfl
   |cons t l=>rw[K8 (by simp;omega)];rfl)
  obtain⟨s0,hs0⟩:∃s0,o7 (some ts)=s0:=⟨_,rfl⟩;rw[hs0]at HS0;have HP:=aa (show cE (av x)=gv 802 iz s0 from by rw[HN.o,<-hs0];rfl);have hl0:ln s0<=801:=by rw[HS0.o];cases bad<;>simp[ln]<;>omega
  clear hs0;rw[HP.o]at HCK HOKD;go_wp2_with fail;have Nc:=aa (((di w1 (.cells #[.slice aL ts.length MN,.int .i64 0,.bool bad,.int .i64 0] 89) (.cells #[.slice none 0 0,.slice none 0 0] 62)).block _ (by omega)).trans Oz.o);have HRS2:=aa (show RS ((w1.alloc (.cells #[.slice aL ts.length MN,.int .i64 0,.bool bad,.int .i64 0] 89)).alloc (.cells #[.slice none 0 0,.slice none 0 0] 62)) w1.heap.size (.slice aL ts.length MN) ts s0 from⟨⟨0,bad,ig _ _ _,KU _,by rw[HS0.o,List.drop_zero]⟩,bZ Mq.o (di _ _ _),Me,hwf⟩);have HRX2:=aa (show RX ((w1.alloc (.cells #[.slice aL ts.length MN,.int .i64 0,.bool bad,.int .i64 0] 89)).alloc (.cells #[.slice none 0 0,.slice none 0 0] 62)) (w1.heap.size+1) w.heap.size (.slice none 0 0) (.slice none 0 0) [] []from⟨eo _ _ _,dk.nil _ _ _ _ _ _,dk.nil _ _ _ _ _ _⟩);clear MA Mq Oz;have HWF:=aa hwf;clear hwf;go_loopg [8,9,10,11,12] (ln s0) (fun k v8 v9 v10 v11 v12 wr=>∃(c:eG) (s':St) (f:Nat) (vR vD:Value) (LR:List (aj×Value)) (LD:List (ap×Value×Value×Value)),ln s'<=k/\ln s'<=f/\RS wr w1.heap.size (.slice aL ts.length MN) ts s'/\RX wr (w1.heap.size+1) w.heap.size vR vD LR LD/\wr.heap[w.heap.size]?=some (.cells #[.slice none 0 0,.slice none 0 0] 62 (0,0))/\LR.map Prod.fst=c.Lu/\LD.map Prod.fst=c.Lv/\LR.length+LD.length+ln s'<=802/\(∀r∈c.Lu,r.LA.length<=801)/\Lt w wr/\gv 802 iz s0=gv f c s')
  case atStart=>exact⟨iz,s0,802,_,_,[],[],KK _,by omega,HRS2.o,HRX2.o,Nc.o,rfl,rfl,by simp;omega,fun r hr=>by simp[iz]at hr,HB1.o.trans ((di w1 _ _).mono HB1.o.size),rfl⟩
  case round=>
   clear HRS2 HRX2 Nc;obtain⟨c,s',f,vR,vD,LR,LD,hlk,hlf,hr,hx,Mp,hmR,hmD,Ou,Nd,hbw,hrel⟩:=hrel;have HBW:=aa hbw;clear hbw;have HM:=aa hrel;have HMR:=aa hmR;have HMD:=aa hmD;have NL:=aa Nd;have HR:=aa hr;have HX:=aa hx;have Mf:=aa Mp;obtain⟨aR,cR,hvR⟩:=bc hx.r.own;obtain⟨aD,cD,hvD⟩:=bc hx.d.own;subst hvR;subst hvD;have hrlt:=hr.lt;obtain⟨a,bd,Oi,hal,hs'⟩:=hr.st;have c0:wr.cell? ⟨w1.heap.size,0,none⟩=some (.slice aL ts.length MN):=ae Oi 0;have c1:wr.cell? ⟨w1.heap.size,1,none⟩=some (.int .i64 a):=ae Oi 1;have c2:wr.cell? ⟨w1.heap.size,2,none⟩=some (.bool bd):=ae Oi 2;clear hrel hmR hmD Nd hr hx Mp Oi;by_cases hae:eu s'=true
   ·have HE:=aa (show gv 802 iz s0=(c,s')from by rw[HM.o,AM _ _ _ hae])
    rw[HE.o]at HCK HOKD;dsimp only at HCK HOKD;have hexit:bd=true\/bd=false/\ts.length<=a:=by
     cases bd
     ·right
      refine⟨rfl,?_⟩;rw[hs']at hae;simp only[Lj,if_false]at hae;rw[Cb,Lc]at hae;exact hae
     ·left;rfl
    have hdl:jv s'=true->ln s'=1:=by
     intro h
     match s',h with
     |some [],_=>rfl
    clear hae HM hs';have HDN:=aa (fun n=>BH (wr.drewN n) w1.heap.size _ ts s' (HR.o.below (below_drewN (KL _ _) n)));rcases hexit with rfl|⟨rfl,hlt⟩
    ·go_wp2_with fail
     go_quiet (fail);go_wp2_with fail;refine(HDN.o nq).mono ?_;rintro e w3 ⟨rfl,hb3⟩;have Ok:Lt wr w3:=(below_drewN (KL _ _) nq).trans hb3;clear hb3;have Mj:=aa ((Ok.block _ (ag Mf.o)).trans Mf.o);have HBN:=aa (HBW.o.trans (Ok.mono HBW.o.size));have HX3:=aa (HX.o.below Ok);cases hdn:jv s'
     ·have HF:=aa (show FF=1 from by rw[HCK.o,hdn];rfl)
      clear hdn hdl;have LY:w3.heap[w.heap.size]?=some (.cells #[.slice none 0 0,.slice none 0 0] 62 (0,0)):=Mj.o;have r0:w3.cell? ⟨w.heap.size,0,none⟩=some (.slice none 0 0):=ae LY 0;have r1:w3.cell? ⟨w.heap.size,1,none⟩=some (.slice none 0 0):=ae LY 1;have rf:∀j,w3.frozen? ⟨w.heap.size,j,none⟩=false:=fun j=>ar LY j;clear LY;go_wp2_with fail;refine bodyPost_ret (v:=.tuple #[.agg #[.slice none 0 0,.slice none 0 0],.int .i64 1]) (by simp[results,results23,go_sem,r0,r1]) rfl ⟨_,_,_,_,_,_,by rw[HF.o];rfl,fun e=>(by rw[HF.o]at e;cases e),(HBN.o.setCell (KK _) _).setCell (KK _) _⟩
     ·have hl1:=hdl hdn
      have Nr:=HOKD.o hdn;have HF2:=aa (show FF=if kz c.Lu c.Lv=true then 0 else 2 from by rw[HCK.o,hdn];rfl);have hlr:c.Lu.length<=801:=by rw[<-HMR.o,Ll];omega
      have hld:c.Lv.length<=801:=by rw[<-HMD.o,Ll];omega
      have hcr:=AF _ _ c.Lu c.Lv w3 (by rw[<-HMR.o];exact HX3.o.Lu) (by rw[<-HMD.o];exact HX3.o.Lv) Nr hlr hld (by have:=uy c.Lu NL.o;omega);have dX0:w3.cell? ⟨w1.heap.size+1,0,none⟩=some (.slice aR LR.length cR):=ae HX3.o.x 0;have dX1:w3.cell? ⟨w1.heap.size+1,1,none⟩=some (.slice aD LD.length cD):=ae HX3.o.x 1;generalize kz c.Lu c.Lv=rb at*;clear hdn hdl Nr;go_wp2_with fail;refine hcr.mono ?_;clear hcr;rintro e w5 ⟨rfl,hb5⟩;have Nm:=aa ((hb5.block _ (ag Mj.o)).trans Mj.o);have HX5:=aa ((hb5.block _ (ag HX3.o.x)).trans HX3.o.x);have HBQ:=aa (HBN.o.trans (hb5.mono HBN.o.size));have HXQ:=aa (HX3.o.below hb5);clear Mj dX0 dX1 hb5 HBN;have Mj:=Nm;have HBN:=HBQ;have dX0:w5.cell? ⟨w1.heap.size+1,0,none⟩=some (.slice aR LR.length cR):=ae HX5.o 0;have dX1:w5.cell? ⟨w1.heap.size+1,1,none⟩=some (.slice aD LD.length cD):=ae HX5.o 1;cases rb
      ·have HF:=aa (show FF=2 from HF2.o)
       have LY:w5.heap[w.heap.size]?=some (.cells #[.slice none 0 0,.slice none 0 0] 62 (0,0)):=Mj.o;have r0:w5.cell? ⟨w.heap.size,0,none⟩=some (.slice none 0 0):=ae LY 0;have r1:w5.cell? ⟨w.heap.size,1,none⟩=some (.slice none 0 0):=ae LY 1;have rf:∀j,w5.frozen? ⟨w.heap.size,j,none⟩=false:=fun j=>ar LY j;clear LY;go_wp2_with fail;refine bodyPost_ret (v:=.tuple #[.agg #[.slice none 0 0,.slice none 0 0],.int .i64 2]) (by simp[results,results23,go_sem,r0,r1]) rfl ⟨_,_,_,_,_,_,by rw[HF.o];rfl,fun e=>(by rw[HF.o]at e;cases e),(HBN.o.setCell (KK _) _).setCell (KK _) _⟩
      ·have HF:=aa (show FF=0 from HF2.o)
       have LY:w5.heap[w.heap.size]?=some (.cells #[.slice none 0 0,.slice none 0 0] 62 (0,0)):=Mj.o;have r0:w5.cell? ⟨w.heap.size,0,none⟩=some (.slice none 0 0):=ae LY 0;have r1:w5.cell? ⟨w.heap.size,1,none⟩=some (.slice none 0 0):=ae LY 1;have rf:∀j,w5.frozen? ⟨w.heap.size,j,none⟩=false:=fun j=>ar LY j;clear LY;go_wp2_with fail;have HXM:=aa (fun u v=>show gZ ((w5.setCell ⟨w.heap.size,0,none⟩ u).setCell ⟨w.heap.size,1,none⟩ v) (.slice aR LR.length cR) (cE (av x)).1.Lu/\i5 ((w5.setCell ⟨w.heap.size,0,none⟩ u).setCell ⟨w.heap.size,1,none⟩ v) (.slice aD LD.length cD) (cE (av x)).1.Lv from by
        have hr:=HXQ.o.keep62 (((ai.refl w.heap.size w5).setCell 0 u).setCell 1 v) Mj.o (by omega);rw[HP.o,HE.o,<-HMR.o,<-HMD.o];exact⟨hr.Lu,hr.Lv⟩)
       refine bodyPost_ret (v:=.tuple #[.agg #[.slice aR LR.length cR,.slice aD LD.length cD],.int .i64 0]) (by simp[results,results23,go_sem,r0,r1]) rfl ⟨_,_,_,_,_,_,by rw[HF.o];rfl,fun _=>(HXM.o _ _),(HBN.o.setCell (KK _) _).setCell (KK _) _⟩
    ·have hltd:decide ((a:Int)<(ts.length:Int))=false:=KT (by omega)
     go_wp2_with fail;go_quiet (fail);go_wp2_with fail;all_goals(try(exfalso;omega))
     refine(HDN.o nq).mono ?_;rintro e w3 ⟨rfl,hb3⟩;have Ok:Lt wr w3:=(below_drewN (KL _ _) nq).trans hb3;clear hb3;have Mj:=aa ((Ok.block _ (ag Mf.o)).trans Mf.o);have HBN:=aa (HBW.o.trans (Ok.mono HBW.o.size));have HX3:=aa (HX.o.below Ok);cases hdn:jv s'
     ·have HF:=aa (show FF=1 from by rw[HCK.o,hdn];rfl)
      clear hdn hdl;have LY:w3.heap[w.heap.size]?=some (.cells #[.slice none 0 0,.slice none 0 0] 62 (0,0)):=Mj.o;have r0:w3.cell? ⟨w.heap.size,0,none⟩=some (.slice none 0 0):=ae LY 0;have r1:w3.cell? ⟨w.heap.size,1,none⟩=some (.slice none 0 0):=ae LY 1;have rf:∀j,w3.frozen? ⟨w.heap.size,j,none⟩=false:=fun j=>ar LY j;clear LY;go_wp2_with fail;refine bodyPost_ret (v:=.tuple #[.agg #[.slice none 0 0,.slice none 0 0],.int .i64 1]) (by simp[results,results23,go_sem,r0,r1]) rfl ⟨_,_,_,_,_,_,by rw[HF.o];rfl,fun e=>(by rw[HF.o]at e;cases e),(HBN.o.setCell (KK _) _).setCell (KK _) _⟩
     ·have hl1:=hdl hdn
      have Nr:=HOKD.o hdn;have HF2:=aa (show FF=if kz c.Lu c.Lv=true then 0 else 2 from by rw[HCK.o,hdn];rfl);have hlr:c.Lu.length<=801:=by rw[<-HMR.o,Ll];omega
      have hld:c.Lv.length<=801:=by rw[<-HMD.o,Ll];omega
      have hcr:=AF _ _ c.Lu c.Lv w3 (by rw[<-HMR.o];exact HX3.o.Lu) (by rw[<-HMD.o];exact HX3.o.Lv) Nr hlr hld (by have:=uy c.Lu NL.o;omega);have dX0:w3.cell? ⟨w1.heap.size+1,0,none⟩=some (.slice aR LR.length cR):=ae HX3.o.x 0;have dX1:w3.cell? ⟨w1.heap.size+1,1,none⟩=some (.slice aD LD.length cD):=ae HX3.o.x 1;generalize kz c.Lu c.Lv=rb at*;clear hdn hdl Nr;go_wp2_with fail;refine hcr.mono ?_;clear hcr;rintro e w5 ⟨rfl,hb5⟩;have Nm:=aa ((hb5.block _ (ag Mj.o)).trans Mj.o);have HX5:=aa ((hb5.block _ (ag HX3.o.x)).trans HX3.o.x);have HBQ:=aa (HBN.o.trans (hb5.mono HBN.o.size));have HXQ:=aa (HX3.o.below hb5);clear Mj dX0 dX1 hb5 HBN;have Mj:=Nm;have HBN:=HBQ;have dX0:w5.cell? ⟨w1.heap.size+1,0,none⟩=some (.slice aR LR.length cR):=ae HX5.o 0;have dX1:w5.cell? ⟨w1.heap.size+1,1,none⟩=some (.slice aD LD.length cD):=ae HX5.o 1;cases rb
      ·have HF:=aa (show FF=2 from HF2.o)
       have LY:w5.heap[w.heap.size]?=some (.cells #[.slice none 0 0,.slice none 0 0] 62 (0,0)):=Mj.o;have r0:w5.cell? ⟨w.heap.size,0,none⟩=some (.slice none 0 0):=ae LY 0;have r1:w5.cell? ⟨w.heap.size,1,none⟩=some (.slice none 0 0):=ae LY 1;have rf:∀j,w5.frozen? ⟨w.heap.size,j,none⟩=false:=fun j=>ar LY j;clear LY;go_wp2_with fail;refine bodyPost_ret (v:=.tuple #[.agg #[.slice none 0 0,.slice none 0 0],.int .i64 2]) (by simp[results,results23,go_sem,r0,r1]) rfl ⟨_,_,_,_,_,_,by rw[HF.o];rfl,fun e=>(by rw[HF.o]at e;cases e),(HBN.o.setCell (KK _) _).setCell (KK _) _⟩
      ·have HF:=aa (show FF=0 from HF2.o)
       have LY:w5.heap[w.heap.size]?=some (.cells #[.slice none 0 0,.slice none 0 0] 62 (0,0)):=Mj.o;have r0:w5.cell? ⟨w.heap.size,0,none⟩=some (.slice none 0 0):=ae LY 0;have r1:w5.cell? ⟨w.heap.size,1,none⟩=some (.slice none 0 0):=ae LY 1;have rf:∀j,w5.frozen? ⟨w.heap.size,j,none⟩=false:=fun j=>ar LY j;clear LY;go_wp2_with fail;have HXM:=aa (fun u v=>show gZ ((w5.setCell ⟨w.heap.size,0,none⟩ u).setCell ⟨w.heap.size,1,none⟩ v) (.slice aR LR.length cR) (cE (av x)).1.Lu/\i5 ((w5.setCell ⟨w.heap.size,0,none⟩ u).setCell ⟨w.heap.size,1,none⟩ v) (.slice aD LD.length cD) (cE (av x)).1.Lv from by
        have hr:=HXQ.o.keep62 (((ai.refl w.heap.size w5).setCell 0 u).setCell 1 v) Mj.o (by omega);rw[HP.o,HE.o,<-HMR.o,<-HMD.o];exact⟨hr.Lu,hr.Lv⟩)
       refine bodyPost_ret (v:=.tuple #[.agg #[.slice aR LR.length cR,.slice aD LD.length cD],.int .i64 0]) (by simp[results,results23,go_sem,r0,r1]) rfl ⟨_,_,_,_,_,_,by rw[HF.o];rfl,fun _=>(HXM.o _ _),(HBN.o.setCell (KK _) _).setCell (KK _) _⟩
   ·have hae2:eu s'=false:=by simpa using hae
    have hbd:bd=false:=by
     cases bd
     ·rfl
     ·rw[hs']at hae;exact absurd rfl hae
    subst hbd;have hlt:a<ts.length:=by
     rw[hs']at hae2;simp only[Lj,if_false]at hae2;rw[Cb,decide_eq_false_iff_not]at hae2;omega
    have hl1:=lg s' (zh s' hae2);have hls:ln s'<=801:=HR.o.lnle;have hl2:=KF c s' hls;obtain⟨f',rfl⟩:∃f',f=f'+1:=⟨f-1,by omega⟩;have HE:=aa (show gv 802 iz s0=gv f' (eB c s').1 (eB c s').2 from by rw[HM.o,gv,K8 hae]);clear hae hae2 HM hs';go_wp2_with fail;go_quiet (fail);go_wp2_with fail;have HR2:=aa (HR.o.below (below_drewN (KL _ _) nq));have HX2:=aa (HX.o.below (below_drewN (KL _ _) nq));have Nc:=aa (show(wr.drewN nq).heap[w.heap.size]?=some (.cells #[.slice none 0 0,.slice none 0 0] 62 (0,0))from Mf.o);have hrlt2:w1.heap.size<(wr.drewN nq).heap.size:=hrlt;have HB2:=aa (below_drewN HBW.o nq);clear HR HX Mf c0 c1 c2 hrlt HBW;generalize wr.drewN nq=w2 at*;refine(iX w2 w1.heap.size _ ts s' HR2.o).mono ?_;rintro e w3 ⟨rfl,hr3,hk3⟩;obtain⟨a3,b3,hblk3,_,_⟩:=HR2.o.st;have HX3:=aa (HX2.o.keep hk3 hblk3);have MR:=aa (hk3.at Nc.o (by omega));have HR3:=aa hr3;have hsz3:=hk3.size;have HB3:=aa (HB2.o.trans (hk3.below (by omega) HB2.o.size));clear hr3 hk3 hblk3 HR2 HX2 Nc;have L1:=bV (nm s') [114,111,108,101];have L2:=bV (nm s') [116,121,112,101];have L3:=bV (nm s') [105,110,116,101,114,102,97,99,101];have L4:=bV (nm s') [117,110,105,111,110];by_cases e1:nm s'=oe
    ·have HQ:=aa (show eB c s'=(⟨c.Lu++[(iq (ab s')).1],c.Lv⟩,(iq (ab s')).2)from by unfold eB;rw[K9 e1])
     rw[Le (show nm s'=aE _ from e1)]at L1;clear e1 L2 L3 L4;generalize nm s'=n0 at*;generalize ab s'=s1 at*;rw[HQ.o]at HE hl2;dsimp only at HE hl2;have hcl:=Ih w3 w1.heap.size _ ts s1 HR3.o;generalize iq s1=el at*;go_wp2_with fail;refine hcl.mono ?_;clear hcl;rintro e w4 ⟨v,rfl,hov,hvl,hr4,hk4⟩;obtain⟨aV,cV,hv⟩:=bc hov;subst hv;obtain⟨a4,b4,My,_,_⟩:=HR3.o.st;have HX4:=aa (HX3.o.keep hk4 My);have Mv:=aa (hk4.at MR.o (by omega));have HOV:=aa (iJ hov (show w.heap.size<=w3.heap.size by omega));have HR4:=aa hr4;have hsz4:=hk4.size;have HB4:=aa (HB3.o.trans (hk4.below (by omega) HB3.o.size));clear hr4 hk4 My hov HR3 HX3 MR;have Ol:=ag HX4.o.x;have dX0:w4.cell? ⟨w1.heap.size+1,0,none⟩=some (.slice aR LR.length cR):=ae HX4.o.x 0;have hne:=gM HX4.o.r.own HX4.o.x (by decide);have MT:=gM HX4.o.r.own Mv.o (by decide);have hap:=HR4.o.apart HX4.o.r.own (by decide) (by decide);have hsr:=ag Mv.o;go_wp2_with (at_builtin;refine wpList_append_own _ rfl _ _ 59 rfl w.heap.size 92 iR _ 2 40 underlying59 hiR zR0 zR1 zR2 rfl (by decide) _ _ _ rfl ((HX4.o.r.own.alloc _).alloc _) ⟨w4.heap.size+1,0,none⟩ 1 1 [.string el.1.name,.slice aV el.1.LA.length cV] rfl rfl (de _ _ _ _ (by simp)) (pZ rfl rfl) (by unfold maxLen;omega) (by omega) (by simp;omega) ?_;intro v' x3 hown' hgrow _;obtain⟨a',LM,hv'⟩:=bc hown';subst hv';have hX5:=jq hgrow (((di w4 _ _).block _ Ol).trans HX4.o.x) hne;have hc5:=(ae hX5 0:x3.cell? ⟨w1.heap.size+1,0,none⟩=some (.slice aR LR.length cR));have hf5:=ar hX5 0;have HX5:=aa hX5;clear hX5);have HXN:=aa (HX4.o.addR (e:=(el.1,.slice aV el.1.LA.length cV)) (di _ _ _) hgrow hown' rfl HOV.o);have HRN:=aa ((HR4.o.grown2 hgrow hap).set HX5.o (by decide) (by decide) 0 (.slice a' (LR.length+1) LM));have HSN:=aa (dG (jq hgrow (((di w4 _ _).block _ hsr).trans Mv.o) MT) (show w.heap.size≠w1.heap.size+1 by omega) 0 (.slice a' (LR.length+1) LM));have HBN:=aa ((Below.grown (HB4.o.trans ((di w4 _ _).mono HB4.o.size)) hgrow (KP HB4.o.size (di w4 _ _).size) (fun k hk=>(HX4.o.r.own.lt k hk).1)).setCell (p:=⟨w1.heap.size+1,0,none⟩) (show w.heap.size<=w1.heap.size+1 by omega) (.slice a' (LR.length+1) LM));go_roundg (ln el.2)
     case measure=>omega
     case rel=>exact⟨⟨c.Lu++[el.1],c.Lv⟩,el.2,f',_,_,LR++[(el.1,.slice aV el.1.LA.length cV)],LD,KK _,by omega,HRN.o,HXN.o,HSN.o,by rw[Lr,HMR.o];rfl,HMD.o,by rw[Lb];simp only[Lm,List.length_nil];omega,fun r hr=>by
      rcases List.mem_append.1 hr with h|h
      ·exact NL.o r h
      ·rw[List.mem_singleton]at h;subst h;exact hvl,HBN.o,HE.o⟩
    ·by_cases e2:nm s'=oG
     ·have HQ:=aa (show eB c s'=(⟨c.Lu,c.Lv++[(fY (ab s')).1]⟩,(fY (ab s')).2)from by unfold eB;rw[K8 e1,K9 e2])
      rw[KT (show¬nm s'=aE _ from e1)]at L1;rw[Le (show nm s'=aE _ from e2)]at L2;clear e1 e2 L3 L4;generalize nm s'=n0 at*;generalize ab s'=s1 at*;rw[HQ.o]at HE hl2;dsimp only at HE hl2;have hcl:=Hu w3 w1.heap.size _ ts s1 HR3.o;have HSO:=aa (show(fY s1).1.sort=0 from rfl);generalize fY s1=el at*;go_wp2_with fail;refine hcl.mono ?_;clear hcl;rintro e w4 ⟨vF,vA,vT,rfl,hoF,hoA,hoT,hr4,hk4⟩;obtain⟨aF,cF,hv⟩:=bc hoF;subst hv;obtain⟨aA,cA,hv⟩:=bc hoA;subst hv;obtain⟨aT,cT,hv⟩:=hoT.slice;subst hv;obtain⟨a4,b4,My,_,_⟩:=HR3.o.st;have HX4:=aa (HX3.o.keep hk4 My);have Mv:=aa (hk4.at MR.o (by omega));have HOV:=aa (And.intro (iJ hoF (show w.heap.size<=w3.heap.size by omega)) (And.intro (iJ hoA (show w.heap.size<=w3.heap.size by omega)) hoT));have HR4:=aa hr4;have hsz4:=hk4.size;have HB4:=aa (HB3.o.trans (hk4.below (by omega) HB3.o.size));clear hr4 hk4 My hoF hoA hoT HR3 HX3 MR;have Ol:=ag HX4.o.x;have dX1:w4.cell? ⟨w1.heap.size+1,1,none⟩=some (.slice aD LD.length cD):=ae HX4.o.x 1;have hne:=gM HX4.o.d.own HX4.o.x (by decide);have MT:=gM HX4.o.d.own Mv.o (by decide);have hap:=HR4.o.apart HX4.o.d.own (by decide) (by decide);have hsr:=ag Mv.o;go_wp2_with (at_builtin;refine wpList_append_own _ rfl _ _ 60 rfl w.heap.size 96 iD _ 6 104 underlying60 hiD zD0 zD1 zD2 rfl (by decide) _ _ _ rfl ((HX4.o.d.own.alloc _).alloc _) ⟨w4.heap.size+1,0,none⟩ 1 1 [.int .i64 0,.string el.1.name,.slice aF el.1.fields.length cF,.slice aA el.1.Ly.length cA,.bool el.1.LC,.slice aT el.1.Lw.length cT] rfl rfl (de _ _ _ _ (by simp)) (rM rfl rfl rfl rfl rfl rfl) (by unfold maxLen;omega) (by omega) (by simp;omega) ?_;intro v' x3 hown' hgrow _;obtain⟨a',LM,hv'⟩:=bc hown';subst hv';have hX5:=jq hgrow (((di w4 _ _).block _ Ol).trans HX4.o.x) hne;have hc5:=(ae hX5 1:x3.cell? ⟨w1.heap.size+1,1,none⟩=some (.slice aD LD.length cD));have hf5:=ar hX5 1;have HX5:=aa hX5;clear hX5);have HXN:=aa (HX4.o.addD (e:=(el.1,.slice aF el.1.fields.length cF,.slice aA el.1.Ly.length cA,.slice aT el.1.Lw.length cT)) (di w4 _ _) hgrow hown' (by unfold oL;dsimp only;rw[HSO.o];rfl) (HOV.o));have HRN:=aa ((HR4.o.grown2 hgrow hap).set HX5.o (by decide) (by decide) 1 (.slice a' (LD.length+1) LM));have HSN:=aa (dG (jq hgrow (((di w4 _ _).block _ hsr).trans Mv.o) MT) (show w.heap.size≠w1.heap.size+1 by omega) 1 (.slice a' (LD.length+1) LM));have HBN:=aa ((Below.grown (HB4.o.trans ((di w4 _ _).mono HB4.o.size)) hgrow (KP HB4.o.size (di w4 _ _).size) (fun k hk=>(HX4.o.d.own.lt k hk).1)).setCell (p:=⟨w1.heap.size+1,1,none⟩) (show w.heap.size<=w1.heap.size+1 by omega) (.slice a' (LD.length+1) LM));go_roundg (ln el.2)
      case measure=>omega
      case rel=>exact⟨⟨c.Lu,c.Lv++[el.1]⟩,el.2,f',_,_,LR,LD++[(el.1,.slice aF el.1.fields.length cF,.slice aA el.1.Ly.length cA,.slice aT el.1.Lw.length cT)],KK _,by omega,HRN.o,HXN.o,HSN.o,HMR.o,by rw[Lr,HMD.o];rfl,by rw[Lb];simp only[Lm,List.length_nil];omega,NL.o,HBN.o,HE.o⟩
     ·by_cases e3:nm s'=pF
      ·have HQ:=aa (show eB c s'=(⟨c.Lu,c.Lv++[⟨1,nm (ab s'),(gy (ab (ab s'))).1,[],false,[]⟩]⟩,(gy (ab (ab s'))).2)from by unfold eB;rw[K8 e1,K8 e2,K9 e3])
       rw[KT (show¬nm s'=aE _ from e1)]at L1;rw[KT (show¬nm s'=aE _ from e2)]at L2;rw[Le (show nm s'=aE _ from e3)]at L3;clear e1 e2 e3 L4;generalize nm s'=n0 at*;generalize ab s'=s1 at*;rw[HQ.o]at HE hl2;dsimp only at HE hl2;have hcl:=iX _ w1.heap.size _ ts s1 (HR3.o.below ((KL _ _).alloc (KK _) (.cells #[.int .i64 1,.string ⟨#[]⟩,.slice none 0 0,.slice none 0 0,.bool false,.slice none 0 0] 96)));have hfl:=fun W h=>BI W w1.heap.size (.slice aL ts.length MN) ts (ab s1) h;generalize nm s1=n1 at*;generalize ab s1=s2 at*;generalize gy s2=el at*;go_wp2_with fail;refine hcl.mono ?_;clear hcl;rintro e w4 ⟨rfl,hr4,hk4⟩;have HB4:=aa (hk4.at (mX w3 (.cells #[.int .i64 1,.string ⟨#[]⟩,.slice none 0 0,.slice none 0 0,.bool false,.slice none 0 0] 96)) (by omega));have hK4:ai w1.heap.size w3 w4:=(ai.of_below ((KL _ _).alloc (KK _) _)).trans hk4;have cY:w4.cell? ⟨w3.heap.size,1,none⟩=some (.string ⟨#[]⟩):=ae HB4.o 1;have cYf:=ar HB4.o 1;go_wp2_with fail;have hr5:=hr4.set HB4.o (by decide) (by decide) 1 (.string n1);have HB5:=aa (show(w4.setCell ⟨w3.heap.size,1,none⟩ (.string n1)).heap[w3.heap.size]?=some (.cells #[.int .i64 1,.string n1,.slice none 0 0,.slice none 0 0,.bool false,.slice none 0 0] 96 (0,0))from aJ HB4.o 1 _);have hK5:=hK4.setNew ⟨w3.heap.size,1,none⟩ (KK _) (.string n1);clear cY cYf HB4 hK4 hr4 hk4;generalize w4.setCell ⟨w3.heap.size,1,none⟩ (.string n1)=w5 at*;refine(hfl w5 hr5).mono ?_;clear hfl;rintro e w6 ⟨vF,rfl,hoF,hnF,hr6,hk6⟩;obtain⟨aF,cF,hv⟩:=bc hoF;subst hv;have HB6:=aa (hk6.at HB5.o (by omega));have hK6:=hK5.trans hk6;have hz5:=hK5.size;have cY:w6.cell? ⟨w3.heap.size,2,none⟩=some (.slice none 0 0):=ae HB6.o 2;have cYf:=ar HB6.o 2;go_upto_region 18 with fail;have HR4:=aa (hr6.set HB6.o (by decide) (by decide) 2 (.slice aF el.1.length cF));have HB7:=aa (show(w6.setCell ⟨w3.heap.size,2,none⟩ (.slice aF el.1.length cF)).heap[w3.heap.size]?=some (.cells #[.int .i64 1,.string n1,.slice aF el.1.length cF,.slice none 0 0,.bool false,.slice none 0 0] 96 (0,0))from aJ HB6.o 2 _);have hK7:=hK6.setNew ⟨w3.heap.size,2,none⟩ (KK _) (.slice aF el.1.length cF);have HOV:=aa (iJ (gW hoF ((ai.refl w3.heap.size w6).setCell 2 (.slice aF el.1.length cF)) HB6.o (by decide)) (show w.heap.size<=w5.heap.size by omega));clear cY cYf HB6 HB5 hK6 hK5 hr6 hk6 hr5 hoF;generalize w6.setCell ⟨w3.heap.size,2,none⟩ (.slice aF el.1.length cF)=w7 at*;obtain⟨a4,b4,My,_,_⟩:=HR3.o.st;have HX4:=aa (HX3.o.keep hK7 My);have Mv:=aa (hK7.at MR.o (by omega));have hsz4:=hK7.size;have HB4:=aa (HB3.o.trans (hK7.below (by omega) HB3.o.size));clear My hK7 HR3 HX3 MR;have y0:w7.cell? ⟨w3.heap.size,0,none⟩=some (.int .i64 1):=ae HB7.o 0;have y1:w7.cell? ⟨w3.heap.size,1,none⟩=some (.string n1):=ae HB7.o 1;have y2:w7.cell? ⟨w3.heap.size,2,none⟩=some (.slice aF el.1.length cF):=ae HB7.o 2;have y3:w7.cell? ⟨w3.heap.size,3,none⟩=some (.slice none 0 0):=ae HB7.o 3;have y4:w7.cell? ⟨w3.heap.size,4,none⟩=some (.bool false):=ae HB7.o 4;have y5:w7.cell? ⟨w3.heap.size,5,none⟩=some (.slice none 0 0):=ae HB7.o 5;have Ol:=ag HX4.o.x;have dX1:w7.cell? ⟨w1.heap.size+1,1,none⟩=some (.slice aD LD.length cD):=ae HX4.o.x 1;have hne:=gM HX4.o.d.own HX4.o.x (by decide);have MT:=gM HX4.o.d.own Mv.o (by decide);have hap:=HR4.o.apart HX4.o.d.own (by decide) (by decide);have hsr:=ag Mv.o;go_wp2_with (at_builtin;refine wpList_append_own _ rfl _ _ 60 rfl w.heap.size 96 iD _ 6 104 underlying60 hiD zD0 zD1 zD2 rfl (by decide) _ _ _ rfl (HX4.o.d.own.alloc _) ⟨w7.heap.size,0,none⟩ 1 1 [.int .i64 1,.string n1,.slice aF el.1.length cF,.slice none 0 0,.bool false,.slice none 0 0] rfl rfl (de _ _ _ _ (by simp)) (rM rfl rfl rfl rfl rfl rfl) (by unfold maxLen;omega) (by omega) (by simp;omega) ?_;intro v' x3 hown' hgrow _;obtain⟨a',LM,hv'⟩:=bc hown';subst hv';have hX5:=jq hgrow ((((KL w7.heap.size w7).alloc (KK _) _).block _ Ol).trans HX4.o.x) hne;have hc5:=(ae hX5 1:x3.cell? ⟨w1.heap.size+1,1,none⟩=some (.slice aD LD.length cD));have hf5:=ar hX5 1;have HX5:=aa hX5;clear hX5);have HXN:=aa (HX4.o.addD (e:=(⟨1,n1,el.1,[],false,[]⟩,.slice aF el.1.length cF,.slice none 0 0,.slice none 0 0)) ((KL w7.heap.size w7).alloc (KK _) _) hgrow hown' (by rfl) (⟨HOV.o,K7 _ _ _ _,Or.inl ⟨rfl,rfl⟩⟩));have HRN:=aa ((HR4.o.grown1 hgrow hap).set HX5.o (by decide) (by decide) 1 (.slice a' (LD.length+1) LM));have HSN:=aa (dG (jq hgrow ((((KL w7.heap.size w7).alloc (KK _) _).block _ hsr).trans Mv.o) MT) (show w.heap.size≠w1.heap.size+1 by omega) 1 (.slice a' (LD.length+1) LM));have HBN:=aa ((Below.grown (HB4.o.trans (((KL w7.heap.size w7).alloc (KK _) _).mono HB4.o.size)) hgrow (KP HB4.o.size ((KL w7.heap.size w7).alloc (KK _) _).size) (fun k hk=>(HX4.o.d.own.lt k hk).1)).setCell (p:=⟨w1.heap.size+1,1,none⟩) (show w.heap.size<=w1.heap.size+1 by omega) (.slice a' (LD.length+1) LM));go_roundg (ln el.2)
       case measure=>omega
       case rel=>exact⟨⟨c.Lu,c.Lv++[⟨1,n1,el.1,[],false,[]⟩]⟩,el.2,f',_,_,LR,LD++[(⟨1,n1,el.1,[],false,[]⟩,.slice aF el.1.length cF,.slice none 0 0,.slice none 0 0)],KK _,by omega,HRN.o,HXN.o,HSN.o,HMR.o,by rw[Lr,HMD.o];rfl,by rw[Lb];simp only[Lm,List.length_nil];omega,NL.o,HBN.o,HE.o⟩
      ·by_cases e4:nm s'=pA
       ·have HQ:=aa (show eB c s'=(⟨c.Lu,c.Lv++[(gm (ab s')).1]⟩,(gm (ab s')).2)from by unfold eB;rw[K8 e1,K8 e2,K8 e3,K9 e4])
        rw[KT (show¬nm s'=aE _ from e1)]at L1;rw[KT (show¬nm s'=aE _ from e2)]at L2;rw[KT (show¬nm s'=aE _ from e3)]at L3;rw[Le (show nm s'=aE _ from e4)]at L4;clear e1 e2 e3 e4;generalize nm s'=n0 at*;generalize ab s'=s1 at*;rw[HQ.o]at HE hl2;dsimp only at HE hl2;have hcl:=Fu w3 w1.heap.size _ ts s1 HR3.o;have HSO:=aa (show(gm s1).1.sort=2/\(gm s1).1.fields=[]/\(gm s1).1.LC=false/\(gm s1).1.Lw=[]from⟨rfl,rfl,rfl,rfl⟩);generalize gm s1=el at*;go_wp2_with fail;refine hcl.mono ?_;clear hcl;rintro e w4 ⟨vA,rfl,hoA,hnA,hr4,hk4⟩;obtain⟨aA,cA,hv⟩:=bc hoA;subst hv;obtain⟨a4,b4,My,_,_⟩:=HR3.o.st;have HX4:=aa (HX3.o.keep hk4 My);have Mv:=aa (hk4.at MR.o (by omega));have HOV:=aa (iJ hoA (show w.heap.size<=w3.heap.size by omega));have HR4:=aa hr4;have hsz4:=hk4.size;have HB4:=aa (HB3.o.trans (hk4.below (by omega) HB3.o.size));clear hr4 hk4 My hoA HR3 HX3 MR;have Ol:=ag HX4.o.x;have dX1:w4.cell? ⟨w1.heap.size+1,1,none⟩=some (.slice aD LD.length cD):=ae HX4.o.x 1;have hne:=gM HX4.o.d.own HX4.o.x (by decide);have MT:=gM HX4.o.d.own Mv.o (by decide);have hap:=HR4.o.apart HX4.o.d.own (by decide) (by decide);have hsr:=ag Mv.o;go_wp2_with (at_builtin;refine wpList_append_own _ rfl _ _ 60 rfl w.heap.size 96 iD _ 6 104 underlying60 hiD zD0 zD1 zD2 rfl (by decide) _ _ _ rfl ((HX4.o.d.own.alloc _).alloc _) ⟨w4.heap.size+1,0,none⟩ 1 1 [.int .i64 2,.string el.1.name,.slice none 0 0,.slice aA el.1.Ly.length cA,.bool false,.slice none 0 0] rfl rfl (de _ _ _ _ (by simp)) (rM rfl rfl rfl rfl rfl rfl) (by unfold maxLen;omega) (by omega) (by simp;omega) ?_;intro v' x3 hown' hgrow _;obtain⟨a',LM,hv'⟩:=bc hown';subst hv';have hX5:=jq hgrow (((di w4 _ _).block _ Ol).trans HX4.o.x) hne;have hc5:=(ae hX5 1:x3.cell? ⟨w1.heap.size+1,1,none⟩=some (.slice aD LD.length cD));have hf5:=ar hX5 1;have HX5:=aa hX5;clear hX5);have HXN:=aa (HX4.o.addD (e:=(el.1,.slice none 0 0,.slice aA el.1.Ly.length cA,.slice none 0 0)) (di w4 _ _) hgrow hown' (by unfold oL;dsimp only;rw[HSO.o.1,HSO.o.2.2.1];rfl) (⟨by rw[HSO.o.2.1];exact K7 _ _ _ _,HOV.o,Or.inl ⟨rfl,HSO.o.2.2.2⟩⟩));have HRN:=aa ((HR4.o.grown2 hgrow hap).set HX5.o (by decide) (by decide) 1 (.slice a' (LD.length+1) LM));have HSN:=aa (dG (jq hgrow (((di w4 _ _).block _ hsr).trans Mv.o) MT) (show w.heap.size≠w1.heap.size+1 by omega) 1 (.slice a' (LD.length+1) LM));have HBN:=aa ((Below.grown (HB4.o.trans ((di w4 _ _).mono HB4.o.size)) hgrow (KP HB4.o.size (di w4 _ _).size) (fun k hk=>(HX4.o.d.own.lt k hk).1)).setCell (p:=⟨w1.heap.size+1,1,none⟩) (show w.heap.size<=w1.heap.size+1 by omega) (.slice a' (LD.length+1) LM));go_roundg (ln el.2)
        case measure=>omega
        case rel=>exact⟨⟨c.Lu,c.Lv++[el.1]⟩,el.2,f',_,_,LR,LD++[(el.1,.slice none 0 0,.slice aA el.1.Ly.length cA,.slice none 0 0)],KK _,by omega,HRN.o,HXN.o,HSN.o,HMR.o,by rw[Lr,HMD.o];rfl,by rw[Lb];simp only[Lm,List.length_nil];omega,NL.o,HBN.o,HE.o⟩
       ·have HQ:=aa (show eB c s'=(c,none)from by unfold eB;rw[K8 e1,K8 e2,K8 e3,K8 e4])
        rw[KT (show¬nm s'=aE _ from e1)]at L1;rw[KT (show¬nm s'=aE _ from e2)]at L2;rw[KT (show¬nm s'=aE _ from e3)]at L3;rw[KT (show¬nm s'=aE _ from e4)]at L4;clear e1 e2 e3 e4;generalize nm s'=n0 at*;generalize ab s'=s1 at*;rw[HQ.o]at HE;dsimp only at HE;obtain⟨⟨qq,cq⟩,fq,hn⟩:=HR3.o.fail;obtain⟨a4,b4,My,_,_⟩:=HR3.o.st;have HXN:=aa (HX3.o.keep ((ai.refl w1.heap.size w3).setCell 2 (.bool true)) My);have HSN:=aa (dG MR.o (show w.heap.size≠w1.heap.size by omega) 2 (.bool true));have HRN:=aa hn;have HBN:=aa (HB3.o.trans (((ai.refl w1.heap.size w3).setCell 2 (.bool true)).below (by omega) HB3.o.size));clear My hn;go_wp2_with fail;go_roundg 0
        case measure=>omega
        case rel=>exact⟨c,none,f',_,_,LR,LD,KK _,KU _,HRN.o,HXN.o,HSN.o,HMR.o,HMD.o,by show LR.length+LD.length+0<=802;omega,NL.o,HBN.o,HE.o⟩
end Go.Proofs.YtgbloieahmkcjaaGreat
