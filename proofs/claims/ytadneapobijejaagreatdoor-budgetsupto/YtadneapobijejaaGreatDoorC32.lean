import Derived.Test.YtadneapobijejaaGreatDoorC28
namespace Go.Proofs.YtadneapobijejaaGreatDoor
set_option maxHeartbeats 20000000
set_option maxRecDepth 100000
open Go.RowKit Tryz
def Fr(E:CB)(parts:List Ai)(x:Aq)(T:vD):Option (Nat×vD):=x.part.bind fun p=>
 if x.kind=0 then(Il E.objs E.ifs T x.name).map (fun f=>(p,BI f.ty))else some (p,DY (Ax parts p).typ T)
inductive Db(E:CB)(parts:List Ai)(whole:Nat):Nat->vD->Prop
 |root:Db E parts whole whole bQ
 |kid {q p:Nat} {T U:vD} {x:Aq}:Db E parts whole q T->x∈(Ax parts q).sels->Fr E parts x T=some (p,U)->Db E parts whole p U
structure NR(parts:List Ai)(whole:Nat):Prop where
 own:∀(q q' p:Nat) (x x':Aq),x∈(Ax parts q).sels->x'∈(Ax parts q').sels->x.kind≠1->x'.kind≠1->x.part=some p->x'.part=some p->q=q'/\x=x'
 root:∀(q:Nat) (x:Aq),x∈(Ax parts q).sels->x.part≠some whole
 spr:∀(q q' p:Nat) (x x':Aq),x∈(Ax parts q).sels->x'∈(Ax parts q').sels->x.kind=1->x.part=some p->x'.part=some p->x'.kind=1/\(Ax parts p).typ≠bE
theorem LG{E:CB}{parts:List Ai}{x:Aq}{T U:vD}{p:Nat}(h:Fr E parts x T=some (p,U)):x.part=some p:=by
 unfold Fr at h;cases e:x.part with
 |none=>rw[e]at h;cases h
 |some i=>
  rw[e]at h;simp only[Option.bind_some]at h;split at h
  ·obtain⟨f,_,hf⟩:=uY.1 h
   rw[(Prod.mk.inj hf).1]
  ·rw[(Prod.mk.inj (tY h)).1]
theorem Wl{a b:vD}(h:a≠bE):DY a b=a:=by unfold DY;rw[uB h]
theorem Db.uniq{E:CB}{parts:List Ai}{whole:Nat}(ht:NR parts whole){p:Nat}{T:vD}(h:Db E parts whole p T):∀{T':vD},Db E parts whole p T'->T=T':=by
 induction h with
 |root=>
  intro T' h';cases h' with
  |root=>rfl
  |kid _ hx hk=>exact absurd (LG hk) (ht.root _ _ hx)
 | @kid q p T U x hq hx hk ih=>
   intro T' h';cases h' with
   |root=>exact absurd (LG hk) (ht.root _ _ hx)
   | @kid q' _ T0 _ x' hq' hx' hk'=>
     have e1:=LG hk;have e2:=LG hk';by_cases k1:x.kind=1
     ·obtain⟨k2,hty⟩:=ht.spr q q' p x x' hx hx' k1 e1 e2
      unfold Fr at hk hk';rw[e1]at hk;rw[e2]at hk';simp only[Option.bind_some]at hk hk';rw[uB (by omega)]at hk hk';rw[Wl hty]at hk hk';rw[<-(Prod.mk.inj (tY hk)).2,<-(Prod.mk.inj (tY hk')).2]
     ·by_cases k2:x'.kind=1
      ·exact absurd (ht.spr q' q p x' x hx' hx k2 e2 e1).1 k1
      ·obtain⟨eq,ex⟩:=ht.own q q' p x x' hx hx' k1 k2 e1 e2
       subst eq ex;have:=ih hq';subst this;rw[hk]at hk';exact(Prod.mk.inj (tY hk')).2
def Ye:Ey:=fun _ _ s=>(true,s)
def Jk(E:CB)(parts:List Ai)(x:Aq)(T:vD):Prop:=(De E parts Ye x T []).1=true
theorem fD{rec:Ey}{f:Al}{part:Option Nat}{s:List Bool}(h:(Du rec f part s).1=true):(Du Ye f part []).1=true/\((part=none/\(Du rec f part s).2=s)\/∃p,part=some p/\(rec p (BI f.ty) s).1=true/\(Du rec f part s).2=(rec p (BI f.ty) s).2):=by
 unfold Du at h⊢;by_cases hs:Ef (BI f.ty)=true
 ·rw[uC hs]at h⊢
  rw[uC hs];refine⟨h,.inl ⟨?_,rfl⟩⟩;cases part with
  |none=>rfl
  |some p=>simp at h
 ·rw[uB hs]at h⊢
  rw[uB hs];cases part with
  |none=>simp at h
  |some p=>exact⟨rfl,.inr ⟨p,rfl,h,rfl⟩⟩
theorem dU{E:CB}{parts:List Ai}{rec:Ey}{x:Aq}{T:vD}{s:List Bool}(h:(De E parts rec x T s).1=true):Jk E parts x T/\((Fr E parts x T=none/\(De E parts rec x T s).2=s)\/∃p U,Fr E parts x T=some (p,U)/\(rec p U s).1=true/\(De E parts rec x T s).2=(rec p U s).2):=by
 unfold Jk;unfold De at h⊢;by_cases hc:x.conds.all (fun c=>Dm c.2 Jr true)=true
 ·rw[uC hc]at h⊢
  rw[uC hc];by_cases hk:x.kind=0
  ·rw[uC hk]at h⊢
   rw[uC hk];unfold Ik at h⊢;by_cases h1:x.name=FH\/(x.name=FI/\T=bQ)
   ·rw[uC h1]at h⊢
    rw[uC h1];refine⟨h,.inl ⟨?_,rfl⟩⟩;have hp:x.part=none:=by
     simp only[uL]at h;exact Option.isNone_iff_eq_none.1 h.2
    unfold Fr;rw[hp];rfl
   ·rw[uB h1]at h⊢
    rw[uB h1];by_cases h2:x.name=Fk/\T=bQ
    ·rw[uC h2]at h⊢
     rw[uC h2];refine⟨h,.inl ⟨?_,rfl⟩⟩;have hp:x.part=none:=by
      simp only[uL]at h;exact Option.isNone_iff_eq_none.1 h.2
     unfold Fr;rw[hp];rfl
    ·rw[uB h2]at h⊢
     rw[uB h2];cases hf:Il E.objs E.ifs T x.name with
     |none=>rw[hf]at h;simp at h
     |some f=>
      rw[hf]at h;simp only[]at h⊢;by_cases hm:Dy E.roles f.hide_=true
      ·rw[uC hm]at h⊢
       rw[uC hm];by_cases ha:Id f x.args=true
       ·rw[uC ha]at h⊢
        rw[uC ha];obtain⟨i1,i2⟩:=fD h;refine⟨i1,?_⟩;rcases i2 with⟨e,i3⟩|⟨p,e,i3,i4⟩
        ·exact .inl ⟨by unfold Fr;rw[e];rfl,i3⟩
        ·exact .inr ⟨p,BI f.ty,by unfold Fr;rw[e];simp only[Option.bind_some];rw[uC hk,hf];rfl,i3,i4⟩
       ·rw[uB ha]at h;simp at h
      ·rw[uB hm]at h;simp at h
  ·rw[uB hk]at h⊢
   rw[uB hk];cases hp:x.part with
   |none=>rw[hp]at h;simp at h
   |some p=>
    rw[hp]at h;simp only[]at h⊢;unfold IT at h⊢;by_cases hm:Iq E.objs E.uns (DY (Ax parts p).typ T) T=true
    ·rw[uC hm]at h⊢
     rw[uC hm];exact⟨rfl,.inr ⟨p,DY (Ax parts p).typ T,by unfold Fr;rw[hp];simp only[Option.bind_some];rw[uB hk],h,rfl⟩⟩
    ·rw[uB hm]at h;simp at h
 ·rw[uB hc]at h;simp at h
def CK(s:List Bool)(p:Nat):Prop:=s.getD p false=true
def SM(s s':List Bool):Prop:=∀p,CK s p->CK s' p
section
variable {E:CB} {parts:List Ai} {whole:Nat}
def IB(E:CB)(parts:List Ai)(whole:Nat)(s s':List Bool):Prop:=∀p,CK s' p->¬CK s p->∀T,Db E parts whole p T->∀x∈(Ax parts p).sels,Jk E parts x T/\∀q U,Fr E parts x T=some (q,U)->CK s' q
theorem IB.refl(s:List Bool):IB E parts whole s s:=fun _ h k=>absurd h k
theorem IB.trans{s s1 s2:List Bool}(h:IB E parts whole s s1)(k:IB E parts whole s1 s2)(hm:SM s1 s2):IB E parts whole s s2:=fun p h2 h0 T hT x hx=>by
 by_cases h1:CK s1 p
 ·obtain⟨a,b⟩:=h p h1 h0 T hT x hx
  exact⟨a,fun q U e=>hm q (b q U e)⟩
 ·exact k p h2 h1 T hT x hx
theorem QP(s:List Bool)(i p:Nat)(h:CK (s.set i true) p):p=i\/CK s p:=by
 unfold CK at*;rw[List.getD_eq_getElem?_getD,List.getElem?_set]at h;rw[List.getD_eq_getElem?_getD];by_cases e:i=p
 ·exact .inl e.symm
 ·rw[uB e]at h;exact .inr h
theorem PX(s:List Bool)(i:Nat):SM s (s.set i true):=fun p h=>by
 unfold CK at*;rw[List.getD_eq_getElem?_getD]at*;rw[List.getElem?_set];split
 ·split
  ·rfl
  ·rename_i e1 e2;subst e1;rw[List.getElem?_eq_none (by omega)]at h;simp at h
 ·exact h
theorem QO(s:List Bool)(i:Nat)(h:i<s.length):CK (s.set i true) i:=by
 unfold CK;rw[List.getD_eq_getElem?_getD,List.getElem?_set,uC rfl,uC h];rfl
def SA(E:CB)(parts:List Ai)(whole f:Nat):Prop:=∀i T s,Db E parts whole i T->i<parts.length->s.length=parts.length->uns s+1<=f->(BT E parts f i T s).1=true->SM s (BT E parts f i T s).2/\CK (BT E parts f i T s).2 i/\IB E parts whole s (BT E parts f i T s).2
theorem XF{f:Nat}(ih:SA E parts whole f)(hp:BM parts){i:Nat}{T:vD}(hT:Db E parts whole i T):∀(l:List Aq) (s:List Bool),(∀x∈l,x∈(Ax parts i).sels)->s.length=parts.length->uns s+1<=f->(Fd E parts (BT E parts f) T l s).1=true->SM s (Fd E parts (BT E parts f) T l s).2/\IB E parts whole s (Fd E parts (BT E parts f) T l s).2/\∀x∈l,Jk E parts x T/\∀q U,Fr E parts x T=some (q,U)->CK (Fd E parts (BT E parts f) T l s).2 q
 |[],s,_,_,_,_=>⟨fun _ h=>h,IB.refl _,fun x hx=>by cases hx⟩
 |x::l,s,hl,hs,hu,h=>by
  rw[Fd]at h⊢;by_cases hg:(De E parts (BT E parts f) x T s).1=true
  ·rw[uC hg]at h⊢
   have hlen:=QL (Qd E parts f) E parts x T s;obtain⟨k1,k2,k3⟩:=XF ih hp hT l (De E parts (BT E parts f) x T s).2 (fun y hy=>hl y (uW _ hy)) (hlen.1.trans hs) (by omega) h;obtain⟨g1,g2⟩:=dU hg;generalize (De E parts (BT E parts f) x T s).2=s1 at*;generalize (Fd E parts (BT E parts f) T l s1).2=s2 at*;rcases g2 with⟨e,es⟩|⟨p,U,e,hr,es⟩
   ·subst es
    refine⟨k1,k2,fun y hy=>?_⟩;rcases vB.1 hy with ey|ey
    ·subst ey;exact⟨g1,fun q U' e'=>by rw[e]at e';cases e'⟩
    ·exact k3 y ey
   ·obtain⟨a1,a2,a3⟩:=ih p U s (.kid hT (hl x uX) e) (hp.d i x (hl x uX) p (LG e)) hs hu hr
    rw[<-es]at a1 a2 a3;refine⟨fun q hq=>k1 q (a1 q hq),a3.trans k2 k1,fun y hy=>?_⟩;rcases vB.1 hy with ey|ey
    ·subst ey
     refine⟨g1,fun q U' e'=>?_⟩;rw[e]at e';have:=(Prod.mk.inj (tY e')).1;subst this;exact k1 _ a2
    ·exact k3 y ey
  ·rw[uB hg]at h;simp at h
theorem Td(ht:NR parts whole)(hp:BM parts):∀f,SA E parts whole f
 |0=>fun i T s _ _ _ h=>by omega
 |f+1=>fun i T s hT hi hs hu h=>by
  rw[BT]at h⊢;by_cases hsn:s.getD i false=true
  ·rw[uC hsn]at h⊢
   exact⟨fun _ h=>h,hsn,IB.refl _⟩
  ·rw[uB hsn]at h⊢
   have hsi:s[i]?=some false:=by
    have hlt:i<s.length:=by omega
    rw[tN hlt];rw[List.getD_eq_getElem?_getD,tN hlt]at hsn;simpa using hsn
   have hus:=Kj s i hsi;obtain⟨k1,k2,k3⟩:=XF (Td ht hp f) hp hT (Ax parts i).sels (s.set i true) (fun _ h=>h) (by simpa using hs) (by omega) h;refine⟨fun p q=>k1 p (PX s i p q),k1 i (QO s i (by omega)),fun p h2 h0 T' hT' x hx=>?_⟩;by_cases e:p=i
   ·subst e
    have:=hT.uniq ht hT';subst this;exact k3 x hx
   ·exact k2 p h2 (fun q=>(QP s i p q).elim e h0) T' hT' x hx
theorem YU(ht:NR parts whole)(hp:BM parts)(hw:whole<parts.length)(h:(BT E parts (parts.length+1) whole bQ (List.replicate parts.length false)).1=true){p:Nat}{T:vD}(hT:Db E parts whole p T):∀x∈(Ax parts p).sels,Jk E parts x T:=by
 obtain⟨_,a2,a3⟩:=Td (E:=E) ht hp (parts.length+1) whole bQ (List.replicate parts.length false) .root hw (by simp) (by rw[Ja];omega) h;have h0:∀p,¬CK (List.replicate parts.length false) p:=fun p q=>by
  unfold CK at q;rw[List.getD_eq_getElem?_getD,List.getElem?_replicate]at q;split at q<;>simp at q
 have hall:CK (BT E parts (parts.length+1) whole bQ (List.replicate parts.length false)).2 p:=by
  induction hT with
  |root=>exact a2
  |kid hq hx hk ih=>exact(a3 _ ih (h0 _) _ hq _ hx).2 _ _ hk
 exact fun x hx=>(a3 p hall (h0 p) T hT x hx).1
end
inductive Jj(parts:List Ai)(i:Nat):Nat->Prop
 |self:Jj parts i i
 |step {q p:Nat} {x:Aq}:Jj parts i q->x∈(Ax parts q).sels->x.kind≠0->x.part=some p->Jj parts i p
section
variable {parts:List Ai}
def IC(parts:List Ai)(s s':List Bool)(l':List Nat):Prop:=∀p,CK s' p->¬CK s p->p∈l'/\∀x∈(Ax parts p).sels,x.kind≠0->∀q,x.part=some q->CK s' q
theorem IC.refl(s:List Bool)(l:List Nat):IC parts s s l:=fun _ h k=>absurd h k
theorem IC.trans{s s1 s2:List Bool}{l1 l2:List Nat}(h:IC parts s s1 l1)(k:IC parts s1 s2 l2)(hm:SM s1 s2)(hl:∀j∈l1,j∈l2):IC parts s s2 l2:=fun p h2 h0=>by
 by_cases h1:CK s1 p
 ·obtain⟨a,b⟩:=h p h1 h0
  exact⟨hl p a,fun x hx hk q e=>hm q (b x hx hk q e)⟩
 ·exact k p h2 h1
def SJ(parts:List Ai)(f:Nat):Prop:=∀i l s,i<parts.length->s.length=parts.length->uns s+1<=f->SM s (BJ parts f i l s).2/\CK (BJ parts f i l s).2 i/\IC parts s (BJ parts f i l s).2 (BJ parts f i l s).1/\∀j∈l,j∈(BJ parts f i l s).1
theorem Rc{f:Nat}(ih:SJ parts f)(hp:BM parts){i:Nat}:∀(r:List Aq) (l:List Nat) (s:List Bool),(∀x∈r,x∈(Ax parts i).sels)->s.length=parts.length->uns s+1<=f->SM s (CN (BJ parts f) r l s).2/\IC parts s (CN (BJ parts f) r l s).2 (CN (BJ parts f) r l s).1/\(∀j∈l,j∈(CN (BJ parts f) r l s).1)/\∀x∈r,x.kind≠0->∀q,x.part=some q->CK (CN (BJ parts f) r l s).2 q
 |[],l,s,_,_,_=>⟨fun _ h=>h,IC.refl _ _,fun _ h=>h,fun x hx=>by cases hx⟩
 |x::r,l,s,hr,hs,hu=>by
  rw[CN];split
  ·rename_i hi
   obtain⟨k1,k2,k3,k4⟩:=Rc ih hp r l s (fun y hy=>hr y (uW _ hy)) hs hu;refine⟨k1,k2,k3,fun y hy hk q e=>?_⟩;rcases vB.1 hy with ey|ey
   ·subst ey;rw[uB hk,e]at hi;cases hi
   ·exact k4 y ey hk q e
  ·rename_i j hi
   have hj:x.part=some j:=by
    by_cases hk:x.kind=0
    ·rw[uC hk]at hi;cases hi
    ·rw[uB hk]at hi;exact hi
   have hjl:=hp.d i x (hr x uX) j hj;have hlen:=Ng hp f j l s hjl hs;obtain⟨a1,a2,a3,a4⟩:=ih j l s hjl hs hu;obtain⟨k1,k2,k3,k4⟩:=Rc ih hp r (BJ parts f j l s).1 (BJ parts f j l s).2 (fun y hy=>hr y (uW _ hy)) hlen.1 (by omega);refine⟨fun q hq=>k1 q (a1 q hq),a3.trans k2 k1 k3,fun q hq=>k3 q (a4 q hq),fun y hy hk q e=>?_⟩;rcases vB.1 hy with ey|ey
   ·subst ey
    rw[hj]at e;have:=tY e;subst this;exact k1 _ a2
   ·exact k4 y ey hk q e
theorem UN(hp:BM parts):∀f,SJ parts f
 |0=>fun i l s _ _ h=>by omega
 |f+1=>fun i l s hi hs hu=>by
  rw[BJ];by_cases hsn:s.getD i false=true
  ·rw[uC hsn]
   exact⟨fun _ h=>h,hsn,IC.refl _ _,fun _ h=>h⟩
  ·rw[uB hsn]
   have hsi:s[i]?=some false:=by
    have hlt:i<s.length:=by omega
    rw[tN hlt];rw[List.getD_eq_getElem?_getD,tN hlt]at hsn;simpa using hsn
   have hus:=Kj s i hsi;obtain⟨k1,k2,k3,k4⟩:=Rc (UN hp f) hp (Ax parts i).sels (l++[i]) (s.set i true) (fun _ h=>h) (by simpa using hs) (by omega);refine⟨fun p q=>k1 p (PX s i p q),k1 i (QO s i (by omega)),fun p h2 h0=>?_,fun j hj=>k3 j (List.mem_append_left _ hj)⟩;by_cases e:p=i
   ·subst e
    exact⟨k3 p (List.mem_append_right _ uX),k4⟩
   ·exact k2 p h2 (fun q=>(QP s i p q).elim e h0)
theorem Rt(n p:Nat):¬CK (List.replicate n false) p:=fun q=>by
 unfold CK at q;rw[List.getD_eq_getElem?_getD,List.getElem?_replicate]at q;split at q<;>simp at q
theorem UM(hp:BM parts){i j:Nat}(hi:i<parts.length)(h:Jj parts i j):j∈Bf parts i:=by
 obtain⟨_,a2,a3,_⟩:=UN hp (parts.length+1) i [] (List.replicate parts.length false) hi (by simp) (by rw[Ja];omega);have hall:CK (BJ parts (parts.length+1) i [] (List.replicate parts.length false)).2 j:=by
  induction h with
  |self=>exact a2
  |step _ hx hk e ih=>exact(a3 _ ih (Rt _ _)).2 _ hx hk _ e
 exact(a3 j hall (Rt _ _)).1
theorem Jj.lt(hp:BM parts){i j:Nat}(hi:i<parts.length)(h:Jj parts i j):j<parts.length:=by
 cases h with
 |self=>exact hi
 |step _ hx _ e=>exact hp.d _ _ hx _ e
def Eo(n:Nat)(m:List Bool)(a b:Nat):Prop:=CK m ((Cg a b).1*n+(Cg a b).2)
theorem mL(a b:Nat):Cg a b=Cg b a:=by
 unfold Cg;split<;>split<;>first|rfl|omega|(have:a=b:=by omega);subst this;rfl
theorem fT{n:Nat}{m:List Bool}{a b:Nat}(h:Eo n m a b):Eo n m b a:=by unfold Eo at*;rw[mL];exact h
def Kr(parts:List Ai)(m:List Bool)(p:Nat×Nat):Prop:=∀x∈(Ax parts p.1).sels,∀y∈(Ax parts p.2).sels,x.kind=0->y.kind=0->x.key=y.key->FG x y=true/\∀a b,x.part=some a->y.part=some b->∀a'∈Bf parts a,∀b'∈Bf parts b,Eo parts.length m a' b'
theorem Kr.mono{m m':List Bool}{p:Nat×Nat}(h:Kr parts m p)(hm:SM m m'):Kr parts m' p:=fun x hx y hy e1 e2 e3=>⟨(h x hx y hy e1 e2 e3).1,fun a b h1 h2 a' ha b' hb=>hm _ ((h x hx y hy e1 e2 e3).2 a b h1 h2 a' ha b' hb)⟩
structure EP(n:Nat)(g g':AY):Prop where
 m:SM g.1 g'.1
 o:∀p∈g.2,p∈g'.2
 new:∀a b,a<n->b<n->Eo n g'.1 a b->Eo n g.1 a b\/Cg a b∈g'.2
theorem EP.refl(n:Nat)(g:AY):EP n g g:=⟨fun _ h=>h,fun _ h=>h,fun _ _ _ _ h=>.inl h⟩
theorem EP.trans{n:Nat}{g g1 g2:AY}(h:EP n g g1)(k:EP n g1 g2):EP n g g2:=⟨fun p q=>k.m p (h.m p q),fun p q=>k.o p (h.o p q),fun a b ha hb q=>by
 rcases k.new a b ha hb q with r|r
 ·rcases h.new a b ha hb r with s|s
  ·exact .inl s
  ·exact .inr (k.o _ s)
 ·exact .inr r⟩
theorem nT{n a b c d:Nat}(hb:b<n)(hd:d<n)(h:a*n+b=c*n+d):a=c/\b=d:=by
 rcases Nat.lt_trichotomy a c with q|q|q
 ·have:(a+1)*n<=c*n:=Nat.mul_le_mul_right n q
  rw[Nat.succ_mul]at this;omega
 ·subst q;omega
 ·have:(c+1)*n<=a*n:=Nat.mul_le_mul_right n q
  rw[Nat.succ_mul]at this;omega
theorem kD{n c a b:Nat}{g:AY}(h:BB n c g)(ha:a<n)(hb:b<n):EP n g (Hr n a b g)/\Eo n (Hr n a b g).1 a b:=by
 have ho:=Rz ha hb;unfold Hr;by_cases e:g.1.getD ((Cg a b).1*n+(Cg a b).2) false=true
 ·rw[uC e];exact⟨EP.refl _ _,e⟩
 ·rw[uB e]
  refine⟨⟨PX _ _,fun p q=>List.mem_append_left _ q,fun a' b' ha' hb' q=>?_⟩,QO _ _ (by rw[h.l];exact Pd ho.1 ho.2)⟩;rcases QP _ _ _ q with r|r
  ·obtain⟨r1,r2⟩:=nT (Rz ha' hb').2 ho.2 r
   exact .inr (List.mem_append_right _ (by rw[show Cg a' b'=Cg a b from Prod.ext r1 r2];exact uX))
  ·exact .inl r
theorem UB{n c a:Nat}(ha:a<n):∀(l:List Nat) {g:AY},(∀j∈l,j<n)->BB n c g->EP n g (IL n a l g)/\∀b∈l,Eo n (IL n a l g).1 a b
 |[],_,_,h=>⟨EP.refl _ _,fun b hb=>by cases hb⟩
 |b::l,g,hl,h=>by
  have hb:=hl b uX;obtain⟨m1,m2⟩:=kD h ha hb;obtain⟨k1,k2⟩:=UB ha l (fun j hj=>hl j (uW _ hj)) (Ro h ha hb);refine⟨m1.trans k1,fun y hy=>?_⟩;rcases vB.1 hy with e|e
  ·subst e;exact k1.m _ m2
  ·exact k2 y e
theorem UC{n c:Nat}{m:List Nat}(hm:∀j∈m,j<n):∀(l:List Nat) {g:AY},(∀j∈l,j<n)->BB n c g->EP n g (Jw n m l g)/\∀a∈l,∀b∈m,Eo n (Jw n m l g).1 a b
 |[],_,_,h=>⟨EP.refl _ _,fun b hb=>by cases hb⟩
 |a::l,g,hl,h=>by
  have ha:=hl a uX;obtain⟨m1,m2⟩:=UB ha m hm h;obtain⟨k1,k2⟩:=UC hm l (fun j hj=>hl j (uW _ hj)) (QY ha m hm h);refine⟨m1.trans k1,fun y hy=>?_⟩;rcases vB.1 hy with e|e
  ·subst e;exact fun b hb=>k1.m _ (m2 b hb)
  ·exact k2 y e
theorem UE(hp:BM parts){a b c:Nat}(ha:a<parts.length)(hb:b<parts.length){g:AY}(h:BB parts.length c g):EP parts.length g (GF parts a b g)/\∀a'∈Bf parts a,∀b'∈Bf parts b,Eo parts.length (GF parts a b g).1 a' b':=UC (LJ hp hb).2 _ (LJ hp ha).2 h
theorem Vv(hp:BM parts){c:Nat}{x:Aq}(hx:∀i,x.part=some i->i<parts.length):∀(l:List Aq) {g:AY},(∀y∈l,∀i,y.part=some i->i<parts.length)->BB parts.length c g->(Dx parts x l g).1=true->EP parts.length g (Dx parts x l g).2/\∀y∈l,x.kind=0->y.kind=0->x.key=y.key->FG x y=true/\∀a b,x.part=some a->y.part=some b->∀a'∈Bf parts a,∀b'∈Bf parts b,Eo parts.length (Dx parts x l g).2.1 a' b'
 |[],_,_,h,_=>⟨EP.refl _ _,fun y hy=>by cases hy⟩
 |y::l,g,hl,h,ht=>by
  have hr:=fun{g':AY} (hg:BB parts.length c g') (ht':(Dx parts x l g').1=true)=>Vv hp hx l (fun z hz=>hl z (uW _ hz)) hg ht';rw[Dx]at ht⊢;by_cases hc:x.kind=0/\y.kind=0/\x.key=y.key
  ·rw[uC hc]at ht⊢
   by_cases ha:FG x y=true
   ·rw[uC ha]at ht⊢
    cases e1:x.part with
    |none=>
     rw[e1]at ht;obtain⟨k1,k2⟩:=hr h ht;refine⟨k1,fun z hz q1 q2 q3=>?_⟩;rcases vB.1 hz with e|e
     ·subst e;exact⟨ha,fun a b h1=>by cases h1⟩
     ·exact⟨(k2 z e q1 q2 q3).1,fun a b h1=>by cases h1⟩
    |some a=>
     rw[e1]at ht;cases e2:y.part with
     |none=>
      rw[e2]at ht;obtain⟨k1,k2⟩:=hr h ht;refine⟨k1,fun z hz q1 q2 q3=>?_⟩;rcases vB.1 hz with e|e
      ·subst e;exact⟨ha,fun a b h1 h2=>by rw[e2]at h2;cases h2⟩
      ·have:=k2 z e q1 q2 q3
       rw[e1]at this;exact this
     |some b=>
      rw[e2]at ht;have ha':=hx a e1;have hb':=hl y uX b e2;obtain⟨j1,j2⟩:=UE hp ha' hb' h;obtain⟨k1,k2⟩:=hr (Nc hp ha' hb' h) ht;refine⟨j1.trans k1,fun z hz q1 q2 q3=>?_⟩;rcases vB.1 hz with e|e
      ·subst e
       refine⟨ha,fun a0 b0 h1 h2 a' m1 b' m2=>?_⟩;rw[e2]at h2;have z1:=tY h1;have z2:=tY h2;subst z1 z2;exact k1.m _ (j2 a' m1 b' m2)
      ·have:=k2 z e q1 q2 q3
       rw[e1]at this;exact this
   ·rw[uB ha]at ht;simp at ht
  ·rw[uB hc]at ht⊢
   obtain⟨k1,k2⟩:=hr h ht;refine⟨k1,fun z hz q1 q2 q3=>?_⟩;rcases vB.1 hz with e|e
   ·subst e;exact absurd ⟨q1,q2,q3⟩ hc
   ·exact k2 z e q1 q2 q3
theorem Vt(hp:BM parts){c:Nat}{ys:List Aq}(hys:∀y∈ys,∀i,y.part=some i->i<parts.length):∀(l:List Aq) {g:AY},(∀y∈l,∀i,y.part=some i->i<parts.length)->BB parts.length c g->(GH parts ys l g).1=true->EP parts.length g (GH parts ys l g).2/\∀x∈l,∀y∈ys,x.kind=0->y.kind=0->x.key=y.key->FG x y=true/\∀a b,x.part=some a->y.part=some b->∀a'∈Bf parts a,∀b'∈Bf parts b,Eo parts.length (GH parts ys l g).2.1 a' b'
 |[],_,_,h,_=>⟨EP.refl _ _,fun y hy=>by cases hy⟩
 |x::l,g,hl,h,ht=>by
  rw[GH]at ht⊢;by_cases hj:(Dx parts x ys g).1=true
  ·rw[uC hj]at ht⊢
   have hx:=hl x uX;obtain⟨j1,j2⟩:=Vv hp hx ys hys h hj;obtain⟨k1,k2⟩:=Vt hp hys l (fun z hz=>hl z (uW _ hz)) (Rm hp hx ys hys h) ht;refine⟨j1.trans k1,fun z hz y hy q1 q2 q3=>?_⟩;rcases vB.1 hz with e|e
   ·subst e
    exact⟨(j2 y hy q1 q2 q3).1,fun a b h1 h2 a' m1 b' m2=>k1.m _ ((j2 y hy q1 q2 q3).2 a b h1 h2 a' m1 b' m2)⟩
   ·exact k2 z e y hy q1 q2 q3
  ·rw[uB hj]at ht;simp at ht
def SH(parts:List Ai)(g:AY):Prop:=∀a b,a<parts.length->b<parts.length->Eo parts.length g.1 a b->Cg a b∈g.2\/Kr parts g.1 (Cg a b)
theorem Tc(hp:BM parts):∀(f:Nat) (g:AY) {c:Nat},BB parts.length c g->c+1<=f->SH parts g->IH parts f g=true->∃m,SM g.1 m/\∀a b,a<parts.length->b<parts.length->Eo parts.length m a b->Kr parts m (Cg a b)
 |0,_,_,_,h,_,_=>by omega
 |f+1,g,c,hg,hf,hi,ht=>by
  rw[IH]at ht;cases hl:g.2.getLast? with
  |none=>
   have h0:g.2=[]:=List.getLast?_eq_none_iff.1 hl;refine⟨g.1,fun _ h=>h,fun a b ha hb hm=>?_⟩;rcases hi a b ha hb hm with q|q
   ·rw[h0]at q;cases q
   ·exact q
  |some p=>
   rw[hl]at ht;simp only[]at ht;have hd:g.2=g.2.dropLast++[p]:=by
    obtain⟨l,e⟩:=List.getLast?_eq_some_iff.1 hl;rw[e];simp
   by_cases hk:(GI parts p (g.1,g.2.dropLast)).1=true
   ·rw[uC hk]at ht
    have hc:=hg.c;have hlen:g.2.dropLast.length+1=g.2.length:=by rw[List.length_dropLast];have:=congrArg List.length hd;simp at this;omega
    have hg':BB parts.length (c-1) (g.1,g.2.dropLast):=⟨hg.l,fun q hq=>hg.o q (by rw[hd];exact List.mem_append_left _ hq),by simp only[];omega⟩;obtain⟨k1,k2⟩:=Vt hp (hp.d p.2) (Ax parts p.1).sels (hp.d p.1) hg' hk;have hinv:SH parts (GI parts p (g.1,g.2.dropLast)).2:=fun a b ha hb hm=>by
     rcases k1.new a b ha hb hm with q|q
     ·rcases hi a b ha hb q with r|r
      ·rw[hd]at r
       rcases uZ.1 r with s|s
       ·exact .inl (k1.o _ s)
       ·rw[List.mem_singleton]at s
        refine .inr ?_;rw[s];exact k2
      ·exact .inr (r.mono k1.m)
     ·exact .inl q
    obtain⟨m,m1,m2⟩:=Tc hp f _ (Vw hp hg') (by omega) hinv ht;exact⟨m,fun q hq=>m1 q (k1.m q hq),m2⟩
   ·rw[uB hk]at ht;simp at ht
theorem YR(hp:BM parts){whole:Nat}(hw:whole<parts.length)(h:Kv parts whole=true):∃m,(∀a∈Bf parts whole,∀b∈Bf parts whole,Eo parts.length m a b)/\∀a b,a<parts.length->b<parts.length->Eo parts.length m a b->Kr parts m (Cg a b):=by
 have h0:BB parts.length (parts.length*parts.length) (List.replicate (parts.length*parts.length) false,[]):=⟨by simp,fun p hp=>(by cases hp),by rw[Ja];simp⟩;obtain⟨j1,j2⟩:=UE hp hw hw h0;obtain⟨m,m1,m2⟩:=Tc hp _ _ (Nc hp hw hw h0) (tL _) (fun a b ha hb hm=>by
  rcases j1.new a b ha hb hm with q|q
  ·exact absurd q (Rt _ _)
  ·exact .inl q) h
 exact⟨m,fun a ha b hb=>m1 _ (j2 a ha b hb),m2⟩
end
def Hp(x:Aq):List Nat:=if x.kind=1 then []else x.part.toList
def JY(P:Ai):List Nat:=P.sels.flatMap Hp
def EY(Ps:List Ai):List Nat:=Ps.flatMap JY
theorem Ow(a b:List Ai):EY (a++b)=EY a++EY b:=List.flatMap_append
theorem gG(P:Ai)(a:List Ai):EY (P::a)=JY P++EY a:=rfl
def FE(n m:Nat)(l:List Nat):Prop:=∀k,l.count k<=1/\(0<l.count k->n<=k/\k<m)
theorem FE.nil(n m:Nat):FE n m []:=fun k=>by simp
def PJ(part:Nat->vD->St->List Ai×St):Prop:=∀n typ s,FE (n+1) (n+(part n typ s).1.length) (EY (part n typ s).1)/\1<=(part n typ s).1.length
def Qa(sel:Nat->St->Aq×List Ai×St):Prop:=∀n s,FE n (n+(sel n s).2.1.length) (Hp (sel n s).1++EY (sel n s).2.1)
theorem UI{n m:Nat}{l:List Nat}(h:FE (n+1) m l)(hm:n<m):FE n m (n::l):=fun k=>by
 have h1:=h k;rw[List.count_cons];by_cases e:n=k
 ·subst e
  have h0:l.count n=0:=by
   rcases Nat.eq_zero_or_pos (l.count n)with q|q
   ·exact q
   ·have:=(h n).2 q;omega
  simp[h0];omega
 ·have e2:(n==k)=false:=by simp[e]
  rw[e2];refine⟨by simp;exact h1.1,fun q=>?_⟩;have:=h1.2 (by simpa using q);omega
theorem oS{part:Nat->vD->St->List Ai×St}(hp:PJ part):Qa (Et part):=by
 intro n s;unfold Et;split
 ·split
  ·exact FE.nil _ _
  ·unfold JC
   have h1:=hp n (FP (tl s)).1 (qConds 801 (FP (tl s)).2).2;exact UI h1.1 (by have:=h1.2;simp only[];omega)
 ·unfold Iv
  simp only[];split
  ·have h1:=hp n ⟨#[]⟩ (qConds 801 (Gn (Em s).2).2).2
   exact UI h1.1 (by have:=h1.2;simp only[];omega)
  ·exact FE.nil _ _
theorem WZ{sel:Nat->St->Aq×List Ai×St}(hs:Qa sel):∀(f n:Nat) (s:St),FE n (n+(Ch sel f n s).2.1.length) ((Ch sel f n s).1.flatMap Hp++EY (Ch sel f n s).2.1)
 |0,n,s=>FE.nil _ _
 |f+1,n,s=>by
  rw[Ch];split
  ·exact FE.nil _ _
  split
  ·exact FE.nil _ _
  ·have h1:=hs n s
   have h2:=WZ hs f (n+(sel n s).2.1.length) (sel n s).2.2;simp only[];intro k;have h3:=h1 k;have h4:=h2 k;rw[List.count_append]at h3 h4;rw[List.flatMap_cons,Ow,List.count_append,List.count_append,List.count_append,uE];omega
theorem oI{sel:Nat->St->Aq×List Ai×St}(hs:Qa sel)(d:Nat):PJ (fun n typ s=>FB sel n d typ s):=by
 intro n typ s;unfold FB;have h1:=hs (n+1) (nK (Bz (d+1) s) 14);have h2:=WZ hs 801 (n+1+(sel (n+1) (nK (Bz (d+1) s) 14)).2.1.length) (sel (n+1) (nK (Bz (d+1) s) 14)).2.2;simp only[];refine⟨fun k=>?_,by simp⟩;have h3:=h1 k;have h4:=h2 k;rw[List.count_append]at h3 h4;rw[gG,Ow];show(((sel (n+1) (nK (Bz (d+1) s) 14)).1::_).flatMap Hp++_).count k<=1/\(0<(((sel (n+1) (nK (Bz (d+1) s) 14)).1::_).flatMap Hp++_).count k->_);rw[List.flatMap_cons,List.count_append,List.count_append,List.count_append,uQ,uE];omega
theorem WU:∀(f d:Nat),PJ (fun n typ s=>BA f n d typ s)
 |0,d=>fun n typ s=>⟨FE.nil _ _,by simp[BA]⟩
 |f+1,d=>oI (oS (WU f (d+1))) d
def He(Ps:List Ai):Prop:=∀P∈Ps,∀x∈P.sels,x.kind=1->x.part=none
theorem He.app{a b:List Ai}(h:He a)(k:He b):He (a++b):=fun P hP=>(uZ.1 hP).elim (h P) (k P)
theorem oT{part:Nat->vD->St->List Ai×St}(hp:∀n typ s,He (part n typ s).1):∀n s,((Et part n s).1.kind=1->(Et part n s).1.part=none)/\He (Et part n s).2.1:=by
 intro n s;unfold Et;split
 ·split
  ·exact⟨fun _=>rfl,fun P hP=>by cases hP⟩
  ·exact⟨fun h=>(by cases h),hp _ _ _⟩
 ·unfold Iv
  simp only[];split
  ·exact⟨fun h=>(by cases h),hp _ _ _⟩
  ·exact⟨fun _=>rfl,fun P hP=>by cases hP⟩
theorem Xa{sel:Nat->St->Aq×List Ai×St}(hs:∀n s,((sel n s).1.kind=1->(sel n s).1.part=none)/\He (sel n s).2.1):∀(f n:Nat) (s:St),(∀x∈(Ch sel f n s).1,x.kind=1->x.part=none)/\He (Ch sel f n s).2.1
 |0,n,s=>⟨fun x hx=>(by cases hx),fun P hP=>(by cases hP)⟩
 |f+1,n,s=>by
  rw[Ch];split
  ·exact⟨fun x hx=>(by cases hx),fun P hP=>(by cases hP)⟩
  split
  ·exact⟨fun x hx=>(by cases hx),fun P hP=>(by cases hP)⟩
  ·have h1:=hs n s
   have h2:=Xa hs f (n+(sel n s).2.1.length) (sel n s).2.2;refine⟨fun x hx=>?_,h1.2.app h2.2⟩;rcases vB.1 hx with e|e
   ·rw[e];exact h1.1
   ·exact h2.1 x e
theorem WV:∀(f n d:Nat) (typ:vD) (s:St),He (BA f n d typ s).1
 |0,n,d,typ,s=>fun P hP x hx=>by rw[BA,List.mem_singleton]at hP;rw[hP]at hx;cases hx
 |f+1,n,d,typ,s=>by
  rw[BA];unfold FB;have hs:=oT (part:=fun n typ s=>BA f n (d+1) typ s) (fun n typ s=>WV f n (d+1) typ s);have h1:=hs (n+1) (nK (Bz (d+1) s) 14);have h2:=Xa hs 801 (n+1+(Et (fun n typ s=>BA f n (d+1) typ s) (n+1) (nK (Bz (d+1) s) 14)).2.1.length) (Et (fun n typ s=>BA f n (d+1) typ s) (n+1) (nK (Bz (d+1) s) 14)).2.2;intro P hP;rcases vB.1 hP with e|e
  ·rw[e]
   intro x hx;rcases vB.1 hx with e'|e'
   ·rw[e'];exact h1.1
   ·exact h2.1 x e'
  ·exact(h1.2.app h2.2) P e
theorem VN(k:Nat)(h:k≠0):nK none k=none:=by unfold nK;rw[Io k h];rfl
theorem oP(f n d:Nat)(typ:vD):(BA (f+1) n d typ none).2=none:=by
 rw[BA];unfold FB;simp only[];have h0:Bz (d+1) none=none:=by unfold Bz;split<;>rfl
 rw[h0,VN 14 (by decide)];have hs:∀part m,(Et part m none).2.2=none:=by
  intro part m;unfold Et;rw[Io 4 (by decide)];simp only[uM,if_false];unfold Iv;have h1:nmT none=none:=rfl;have h2:Em none=(nm none,none):=by unfold Em;rw[h1,Io 9 (by decide)];rfl
  rw[h2];have h3:Gn none=([],none):=by unfold Gn;rw[Io 7 (by decide)];rfl
  rw[h3];simp only[];rw[WN 801 none (Io 11 (by decide))];simp only[];rw[Io 14 (by decide)];rfl
 rw[hs,RR _ 801 _ none (by rfl)];exact VN 15 (by decide)
theorem oQ(f n d:Nat)(typ:vD)(s:St):((BA (f+1) n d typ s).1.head?.map Ai.typ)=some typ:=by rw[BA];rfl
structure QT(Q:Qy):Prop where
 c:∀k,(EY Q.parts).count k+((Q.ops.map Prod.snd).count k+(Q.frags.map Prod.snd).count k)<=1/\(0<(EY Q.parts).count k+((Q.ops.map Prod.snd).count k+(Q.frags.map Prod.snd).count k)->k<Q.parts.length)
 s:He Q.parts
def Gd(Q:Qy):Prop:=∀x∈Q.frags,(Ax Q.parts x.2).typ≠bE
theorem nN{a b:List Ai}{i:Nat}(h:i<a.length):Ax (a++b) i=Ax a i:=by
 unfold Ax;rw[List.getD_eq_getElem?_getD,List.getD_eq_getElem?_getD,uI h]
theorem QT.frt{Q:Qy}(h:QT Q)(x:CS)(hx:x∈Q.frags):x.2<Q.parts.length:=
 (h.c x.2).2 (by have:0<(Q.frags.map Prod.snd).count x.2:=List.count_pos_iff.2 (List.mem_map_of_mem hx);omega)
theorem QT.op{Q:Qy}{b:List Ai}{v:List DS}(h:QT Q)(hb:FE (Q.parts.length+1) (Q.parts.length+b.length) (EY b))(h1:1<=b.length)(hs:He b):QT ⟨Q.ops++[(v,Q.parts.length)],Q.frags,Q.parts++b⟩:=⟨fun k=>by
 have h2:=h.c k;have h3:=hb k;simp only[Ow,List.count_append,uU,List.map_cons,List.map_nil,uE,List.count_cons,List.count_nil];by_cases e:Q.parts.length=k
 ·have:(Q.parts.length==k)=true:=by simp[e]
  rw[this];simp;omega
 ·have:(Q.parts.length==k)=false:=by simp[e]
  rw[this];simp;omega,h.s.app hs⟩
theorem QT.fr{Q:Qy}{b:List Ai}{v:vD}(h:QT Q)(hb:FE (Q.parts.length+1) (Q.parts.length+b.length) (EY b))(h1:1<=b.length)(hs:He b):QT ⟨Q.ops,Q.frags++[(v,Q.parts.length)],Q.parts++b⟩:=⟨fun k=>by
 have h2:=h.c k;have h3:=hb k;simp only[Ow,List.count_append,uU,List.map_cons,List.map_nil,uE,List.count_cons,List.count_nil];by_cases e:Q.parts.length=k
 ·have:(Q.parts.length==k)=true:=by simp[e]
  rw[this];simp;omega
 ·have:(Q.parts.length==k)=false:=by simp[e]
  rw[this];simp;omega,h.s.app hs⟩
theorem Gd.more{Q:Qy}{b:List Ai}{ops:List NO}(ht:QT Q)(h:Gd Q):Gd ⟨ops,Q.frags,Q.parts++b⟩:=fun x hx=>by
 show(Ax (Q.parts++b) x.2).typ≠bE;rw[nN (ht.frt x hx)];exact h x hx
theorem TB.nm1{s:St}(h:TB s)(k:Go.Proofs.YtadneapobijejaaGreatDoor.nmT s≠Option.none):Go.Proofs.YtadneapobijejaaGreatDoor.nm s≠bE:=by
 unfold Go.Proofs.YtadneapobijejaaGreatDoor.nmT at k;unfold Go.Proofs.YtadneapobijejaaGreatDoor.nm;by_cases e:Ad s 1=true
 ·rw[uC e]
  cases s with
  |none=>rw[Io 1 (by decide)]at e;cases e
  |some l=>cases l with
   |nil=>rw[KN 1 (by decide)]at e;cases e
   |cons t l=>
    have h2:=(h t (by simp)).2 (by simpa [Ad,Go.Proofs.YtadneapobijejaaGreatDoor.hd]using e);intro q;have h3:t.s=bE:=q;rw[h3]at h2;exact absurd h2 (by decide)
 ·rw[uB e]at k;exact absurd rfl k
theorem WP{q:Qy}{s:St}(hq:QT q):QT (Cd q s).1/\(TB s->(s≠none->Gd q)->(Cd q s).2≠none->Gd (Cd q s).1):=by
 have HP:=fun n typ s=>WU 11 0 n typ s;have HS:=fun n typ s=>WV 11 n 0 typ s;have hn:(Cd q none).2=none:=by
  unfold Cd;rw[Io 14 (by decide)];rfl
 have hne:(Cd q s).2≠none->s≠none:=fun h e=>by subst e;exact h hn
 suffices key:QT (Cd q s).1/\(TB s->Gd q->(Cd q s).2≠none->Gd (Cd q s).1)from⟨key.1,fun hb hf h=>key.2 hb (hf (hne h)) h⟩
 clear hn hne;unfold Cd;unfold Iw;split
 ·have h1:=HP q.parts.length ⟨#[]⟩ s
  exact⟨hq.op h1.1 h1.2 (HS _ _ _),fun _ hf _=>Gd.more hq hf⟩
 split
 ·rw[Mc]
  have h1:=HP q.parts.length ⟨#[]⟩ (Gu (mayT (tl s) (Ad (tl s) 1))).2;exact⟨hq.op h1.1 h1.2 (HS _ _ _),fun _ hf _=>Gd.more hq hf⟩
 split
 ·unfold EK Iw
  simp only[];generalize hs2:nW (nmT (EL (tl s))) Dl=s2;have h1:=HP q.parts.length (nm s2) (nmT s2);refine⟨hq.fr h1.1 h1.2 (HS _ _ _),fun hb hf hne x hx=>?_⟩;rcases uZ.1 hx with e|e
  ·exact Gd.more (ops:=q.ops) hq hf x e
  ·rw[List.mem_singleton]at e
   rw[e];show(Ax (q.parts++(BA 11 q.parts.length 0 (nm s2) (nmT s2)).1) q.parts.length).typ≠bE;have hnt:nmT s2≠none:=fun z=>hne (by rw[z];exact oP 10 _ _ _);have hty:=oQ 10 q.parts.length 0 (nm s2) (nmT s2);have hbs:TB s2:=by
    rw[<-hs2];refine TB.nW (TB.nmT ?_) _;unfold EL;split
    ·exact TB.none
    ·exact hb.tl
   cases hl:(BA 11 q.parts.length 0 (nm s2) (nmT s2)).1 with
   |nil=>rw[hl]at hty;cases hty
   |cons P l=>
    rw[hl]at hty;have e1:P.typ=nm s2:=by simpa using hty
    have e2:Ax (q.parts++P::l) q.parts.length=P:=by
     unfold Ax;rw[List.getD_eq_getElem?_getD,uJ (tL _)];simp
    rw[e2,e1];exact hbs.nm1 hnt
 ·exact⟨hq,fun _ hf _=>hf⟩
theorem WS:∀(f:Nat) {q:Qy} {s:St},QT q->TB s->QZ q->(s≠none->Gd q)->QT (FA f q s).1/\((FA f q s).2≠none->Gd (FA f q s).1)
 |0,q,s,hq,_,_,hf=>⟨hq,hf⟩
 |f+1,q,s,hq,hb,hz,hf=>by
  rw[FA];split
  ·exact⟨hq,hf⟩
  ·have h1:=WP (s:=s) hq
   have h2:=Ma hz hb;exact WS f h1.1 h2.2 h2.1 (h1.2 hb hf)
theorem WX(x:vD):QT (BD (Af x)).1/\((BD (Af x)).2≠none->Gd (BD (Af x)).1):=by
 have h0:QT ⟨[],[],[]⟩:=⟨fun k=>by simp[EY],fun P hP=>by cases hP⟩;have z0:QZ ⟨[],[],[]⟩:=⟨PZ.nil,fun x hx=>by simp at hx,fun x hx=>by simp at hx⟩;have h1:=WP (s:=Af x) h0;have h2:=Ma z0 (TB.cut x);exact WS 801 h1.1 h2.2 h2.1 (h1.2 (TB.cut x) (fun _ x hx=>by cases hx))
theorem QI{β:Type}(f:β->List Nat)(p:Nat):∀(l:List β) (q q':Nat) (P P':β),l[q]?=some P->l[q']?=some P'->p∈f P->p∈f P'->(l.flatMap f).count p<=1->q=q'
 |[],q,_,P,_,h,_,_,_,_=>by simp at h
 |y::l,0,0,_,_,_,_,_,_,_=>rfl
 |y::l,0,q'+1,P,P',h,h',m,m',hc=>by
  simp at h h';subst h;rw[List.flatMap_cons,List.count_append]at hc;have h1:0<(f y).count p:=List.count_pos_iff.2 m;have h2:0<(l.flatMap f).count p:=List.count_pos_iff.2 (List.mem_flatMap.2 ⟨P',tO h',m'⟩);omega
 |y::l,q+1,0,P,P',h,h',m,m',hc=>by
  simp at h h';subst h';rw[List.flatMap_cons,List.count_append]at hc;have h1:0<(f y).count p:=List.count_pos_iff.2 m';have h2:0<(l.flatMap f).count p:=List.count_pos_iff.2 (List.mem_flatMap.2 ⟨P,tO h,m⟩);omega
 |y::l,q+1,q'+1,P,P',h,h',m,m',hc=>by
  simp at h h';rw[List.flatMap_cons,List.count_append]at hc;rw[QI f p l q q' P P' h h' m m' (by omega)]
theorem TL{β:Type}(f:β->List Nat)(p:Nat):∀(l:List β) (P:β),P∈l->(f P).count p<=(l.flatMap f).count p
 |[],P,h=>by cases h
 |y::l,P,h=>by
  rw[List.flatMap_cons,List.count_append];rcases vB.1 h with e|e
  ·subst e;omega
  ·have:=TL f p l P e;omega
def KP(l:AL)(fr:List CS)(x:Aq):Aq:=Ii l (BU fr x)
def Gp(l:AL)(Q:Qy):List Ai:=Q.parts.map (fun P=>⟨P.typ,P.sels.map (KP l Q.frags)⟩)
theorem UP(l:AL)(Q:Qy):(Ds l (Cm Q)).parts=Gp l Q:=by
 unfold Ds Cm Gp;simp only[List.map_map];congr 1;funext P;simp only[Function.comp,List.map_map];rfl
theorem WB(l:AL)(Q:Qy)(q:Nat):Ax (Gp l Q) q=⟨(Ax Q.parts q).typ,(Ax Q.parts q).sels.map (KP l Q.frags)⟩:=by
 unfold Ax Gp;rw[List.getD_eq_getElem?_getD,List.getD_eq_getElem?_getD,uD];cases Q.parts[q]?<;>rfl
theorem KW{parts:List Ai}{q:Nat}{x:Aq}(h:x∈(Ax parts q).sels):parts[q]?=some (Ax parts q):=by
 unfold Ax at*;rw[List.getD_eq_getElem?_getD]at*;cases e:parts[q]? with
 |none=>rw[e]at h;cases h
 |some P=>rfl
theorem Ni{l:AL}{Q:Qy}{q:Nat}{x:Aq}(h:x∈(Ax (Gp l Q) q).sels):∃x0∈(Ax Q.parts q).sels,x=KP l Q.frags x0:=by
 rw[WB]at h;obtain⟨x0,h0,e⟩:=List.mem_map.1 h;exact⟨x0,h0,e.symm⟩
theorem Re(l:AL)(fr:List CS)(x:Aq):(KP l fr x).kind=x.kind:=(OB fr x).1
theorem Nh{l:AL}{fr:List CS}{x:Aq}(h:x.kind≠1):(KP l fr x).part=x.part:=by
 show(BU fr x).part=x.part;unfold BU;rw[uB h]
theorem cD{fr:List CS}{n:vD}{p:Nat}(h:Ij fr n=some p):∃x∈fr,x.2=p:=by
 unfold Ij at h;split at h
 ·cases h
 ·obtain⟨y,hy,e⟩:=uY.1 h
  exact⟨y,tO hy,e⟩
theorem UO{l:AL}{fr:List CS}{x:Aq}{p:Nat}(h:x.kind=1)(hn:x.part=none)(e:(KP l fr x).part=some p):∃y∈fr,y.2=p:=by
 have e:(BU fr x).part=some p:=e;unfold BU at e;rw[uC h]at e;cases hf:Ij fr x.name with
 |none=>rw[hf]at e;simp only[]at e;rw[hn]at e;cases e
 |some i=>rw[hf]at e;simp only[]at e;rw[<-tY e];exact cD hf
section
variable {Q:Qy} {l:AL} {whole:Nat}
theorem Ov{q p:Nat}{x0:Aq}(hx:x0∈(Ax Q.parts q).sels)(hk:x0.kind≠1)(hp:x0.part=some p):p∈Hp x0/\p∈JY (Ax Q.parts q)/\0<(EY Q.parts).count p:=by
 have h1:p∈Hp x0:=by unfold Hp;rw[uB hk,hp];simp
 have h2:p∈JY (Ax Q.parts q):=List.mem_flatMap.2 ⟨x0,hx,h1⟩;exact⟨h1,h2,List.count_pos_iff.2 (List.mem_flatMap.2 ⟨_,tO (KW hx),h2⟩)⟩
theorem sG(h:QT Q)(hf:Gd Q)(hw:whole∈Q.ops.map Prod.snd):NR (Gp l Q) whole:=by
 have hfr:∀{q:Nat} {x0:Aq} {p:Nat},x0∈(Ax Q.parts q).sels->x0.kind=1->(KP l Q.frags x0).part=some p->0<(Q.frags.map Prod.snd).count p/\(Ax Q.parts p).typ≠bE:=fun{q x0 p} hx hk hp=>by
  obtain⟨y,hy,e⟩:=UO hk (h.s _ (tO (KW hx)) x0 hx hk) hp;exact⟨List.count_pos_iff.2 (List.mem_map.2 ⟨y,hy,e⟩),by rw[<-e];exact hf y hy⟩
 refine⟨fun q q' p x x' hx hx' k k' hp hp'=>?_,fun q x hx hp=>?_,fun q q' p x x' hx hx' k hp hp'=>?_⟩
 ·obtain⟨y,hy,e⟩:=Ni hx
  obtain⟨y',hy',e'⟩:=Ni hx';subst e e';rw[Re]at k k';rw[Nh k]at hp;rw[Nh k']at hp';obtain⟨a1,a2,a3⟩:=Ov hy k hp;obtain⟨b1,b2,b3⟩:=Ov hy' k' hp';have hc:=(h.c p).1;have hqq:=QI JY p Q.parts q q' _ _ (KW hy) (KW hy') a2 b2 (by show(EY Q.parts).count p<=1;omega);subst hqq;refine⟨rfl,?_⟩;obtain⟨j,hj⟩:=List.mem_iff_getElem?.1 hy;obtain⟨j',hj'⟩:=List.mem_iff_getElem?.1 hy';have hcp:((Ax Q.parts q).sels.flatMap Hp).count p<=1:=by
   have:=TL JY p Q.parts _ (tO (KW hy));have h0:(JY (Ax Q.parts q)).count p<=(EY Q.parts).count p:=this;show(JY (Ax Q.parts q)).count p<=1;omega
  have:=QI Hp p _ j j' _ _ hj hj' a1 b1 hcp;subst this;rw[hj]at hj';rw[tY hj']
 ·obtain⟨y,hy,e⟩:=Ni hx
  subst e;have h1:0<(Q.ops.map Prod.snd).count whole:=List.count_pos_iff.2 hw;have hc:=(h.c whole).1;by_cases k:y.kind=1
  ·have:=(hfr hy k hp).1;omega
  ·rw[Nh k]at hp
   have:=(Ov hy k hp).2.2;omega
 ·obtain⟨y,hy,e⟩:=Ni hx
  obtain⟨y',hy',e'⟩:=Ni hx';subst e e';rw[Re]at k;obtain⟨f1,f2⟩:=hfr hy k hp;refine⟨?_,by rw[WB];exact f2⟩;rw[Re];by_cases k':y'.kind=1
  ·exact k'
  ·rw[Nh k']at hp'
   have:=(Ov hy' k' hp').2.2;have hc:=(h.c p).1;omega
theorem WD(h:QT Q):BM (Gp l Q):=fun P hP x hx i hi=>by
 obtain⟨P0,hP0,rfl⟩:=List.mem_map.1 hP;obtain⟨y,hy,rfl⟩:=List.mem_map.1 hx;have hl:(Gp l Q).length=Q.parts.length:=by unfold Gp;simp
 rw[hl];by_cases k:y.kind=1
 ·obtain⟨z,hz,e⟩:=UO k (h.s _ hP0 y hy k) hi
  rw[<-e];exact h.frt z hz
 ·rw[Nh k]at hi
  have h1:i∈Hp y:=by unfold Hp;rw[uB k,hi];simp
  have h2:0<(EY Q.parts).count i:=List.count_pos_iff.2 (List.mem_flatMap.2 ⟨P0,hP0,List.mem_flatMap.2 ⟨y,hy,h1⟩⟩);exact(h.c i).2 (by omega)
end
end Go.Proofs.YtadneapobijejaaGreatDoor
