import Derived.Test.YtogdodlibkckkaaGreatDoorZ28
namespace Go.Proofs.YtogdodlibkckkaaGreatDoor
set_option maxHeartbeats 20000000
set_option maxRecDepth 100000
open Go.RowKit Tryz
def Fz(E:CG)(parts:List Ai)(x:As)(T:yF):Option (Nat×yF):=x.part.bind fun p=>
 if x.kind=0 then(Iy E.objs E.ifs T x.name).map (fun f=>(p,BM f.ty))else some (p,Ei (Ax parts p).typ T)
inductive Dl(E:CG)(parts:List Ai)(whole:Nat):Nat->yF->Prop
 |root:Dl E parts whole whole bQ
 |kid {q p:Nat} {T U:yF} {x:As}:Dl E parts whole q T->x∈(Ax parts q).sels->Fz E parts x T=some (p,U)->Dl E parts whole p U
structure Ow(parts:List Ai)(whole:Nat):Prop where
 own:∀(q q' p:Nat) (x x':As),x∈(Ax parts q).sels->x'∈(Ax parts q').sels->x.kind≠1->x'.kind≠1->x.part=some p->x'.part=some p->q=q'/\x=x'
 root:∀(q:Nat) (x:As),x∈(Ax parts q).sels->x.part≠some whole
 spr:∀(q q' p:Nat) (x x':As),x∈(Ax parts q).sels->x'∈(Ax parts q').sels->x.kind=1->x.part=some p->x'.part=some p->x'.kind=1/\(Ax parts p).typ≠bE
theorem Mf{E:CG}{parts:List Ai}{x:As}{T b:yF}{p:Nat}(a:Fz E parts x T=some (p,b)):x.part=some p:=by
 unfold Fz at a;cases e:x.part with
 |none=>rw[e]at a;cases a
 |some i=>
  rw[e]at a;simp only[Option.bind_some]at a;split at a
  ·obtain⟨f,_,c⟩:=yC.1 a
   rw[(Prod.mk.inj c).1]
  ·rw[(Prod.mk.inj (xD a)).1]
theorem Xr{a b:yF}(c:a≠bE):Ei a b=a:=by unfold Ei;rw[xG c]
theorem Dl.uniq{E:CG}{parts:List Ai}{whole:Nat}(d:Ow parts whole){p:Nat}{T:yF}(m:Dl E parts whole p T):∀{e:yF},Dl E parts whole p e->T=e:=by
 induction m with
 |root=>
  intro e i;cases i with
  |root=>rfl
  |kid _ c a=>exact absurd (Mf a) (d.root _ _ c)
 | @kid q p T u x v c a s=>
   intro e i;cases i with
   |root=>exact absurd (Mf a) (d.root _ _ c)
   | @kid l _ t _ h n j b=>
     have f:=Mf a;have g:=Mf b;by_cases k:x.kind=1
     ·obtain⟨k2,r⟩:=d.spr q l p x h c j k f g
      unfold Fz at a b;rw[f]at a;rw[g]at b;simp only[Option.bind_some]at a b;rw[xG (by omega)]at a b;rw[Xr r]at a b;rw[<-(Prod.mk.inj (xD a)).2,<-(Prod.mk.inj (xD b)).2]
     ·by_cases k2:h.kind=1
      ·exact absurd (d.spr l q p h x j c k2 g f).1 k
      ·obtain⟨eq,ex⟩:=d.own q l p x h c j k k2 f g
       subst eq ex;have:=s n;subst this;rw[a]at b;exact(Prod.mk.inj (xD b)).2
def Ze:EI:=fun _ _ s=>(true,s)
def Ju(E:CG)(parts:List Ai)(x:As)(T:yF):Prop:=(Dn E parts Ze x T []).1=true
theorem jL{rec:EI}{f:Am}{part:Option Nat}{s:List Bool}(a:(DJ rec f part s).1=true):(DJ Ze f part []).1=true/\((part=none/\(DJ rec f part s).2=s)\/∃p,part=some p/\(rec p (BM f.ty) s).1=true/\(DJ rec f part s).2=(rec p (BM f.ty) s).2):=by
 unfold DJ at a⊢;by_cases hs:Ep (BM f.ty)=true
 ·rw[xH hs]at a⊢
  rw[xH hs];refine⟨a,.inl ⟨?_,rfl⟩⟩;cases part with
  |none=>rfl
  |some p=>simp at a
 ·rw[xG hs]at a⊢
  rw[xG hs];cases part with
  |none=>simp at a
  |some p=>exact⟨rfl,.inr ⟨p,rfl,a,rfl⟩⟩
theorem iH{E:CG}{parts:List Ai}{rec:EI}{x:As}{T:yF}{s:List Bool}(a:(Dn E parts rec x T s).1=true):Ju E parts x T/\((Fz E parts x T=none/\(Dn E parts rec x T s).2=s)\/∃p j,Fz E parts x T=some (p,j)/\(rec p j s).1=true/\(Dn E parts rec x T s).2=(rec p j s).2):=by
 unfold Ju;unfold Dn at a⊢;by_cases l:x.conds.all (fun c=>Dy c.2 JB true)=true
 ·rw[xH l]at a⊢
  rw[xH l];by_cases g:x.kind=0
  ·rw[xH g]at a⊢
   rw[xH g];unfold Ix at a⊢;by_cases h:x.name=Gu\/(x.name=Gv/\T=bQ)
   ·rw[xH h]at a⊢
    rw[xH h];refine⟨a,.inl ⟨?_,rfl⟩⟩;have d:x.part=none:=by
     simp only[xQ]at a;exact Option.isNone_iff_eq_none.1 a.2
    unfold Fz;rw[d];rfl
   ·rw[xG h]at a⊢
    rw[xG h];by_cases i:x.name=FZ/\T=bQ
    ·rw[xH i]at a⊢
     rw[xH i];refine⟨a,.inl ⟨?_,rfl⟩⟩;have d:x.part=none:=by
      simp only[xQ]at a;exact Option.isNone_iff_eq_none.1 a.2
     unfold Fz;rw[d];rfl
    ·rw[xG i]at a⊢
     rw[xG i];cases m:Iy E.objs E.ifs T x.name with
     |none=>rw[m]at a;simp at a
     |some f=>
      rw[m]at a;simp only[]at a⊢;by_cases b:DW E.roles f.hide_=true
      ·rw[xH b]at a⊢
       rw[xH b];by_cases k:Is f x.args=true
       ·rw[xH k]at a⊢
        rw[xH k];obtain⟨q,r⟩:=jL a;refine⟨q,?_⟩;rcases r with⟨e,n⟩|⟨p,e,n,t⟩
        ·exact .inl ⟨by unfold Fz;rw[e];rfl,n⟩
        ·exact .inr ⟨p,BM f.ty,by unfold Fz;rw[e];simp only[Option.bind_some];rw[xH g,m];rfl,n,t⟩
       ·rw[xG k]at a;simp at a
      ·rw[xG b]at a;simp at a
  ·rw[xG g]at a⊢
   rw[xG g];cases d:x.part with
   |none=>rw[d]at a;simp at a
   |some p=>
    rw[d]at a;simp only[]at a⊢;unfold Jh at a⊢;by_cases b:IC E.objs E.uns (Ei (Ax parts p).typ T) T=true
    ·rw[xH b]at a⊢
     rw[xH b];exact⟨rfl,.inr ⟨p,Ei (Ax parts p).typ T,by unfold Fz;rw[d];simp only[Option.bind_some];rw[xG g],a,rfl⟩⟩
    ·rw[xG b]at a;simp at a
 ·rw[xG l]at a;simp at a
def CT(s:List Bool)(p:Nat):Prop:=s.getD p false=true
def SM(s a:List Bool):Prop:=∀p,CT s p->CT a p
section
variable {E:CG} {parts:List Ai} {whole:Nat}
def IP(E:CG)(parts:List Ai)(whole:Nat)(s a:List Bool):Prop:=∀p,CT a p->¬CT s p->∀T,Dl E parts whole p T->∀x∈(Ax parts p).sels,Ju E parts x T/\∀q b,Fz E parts x T=some (q,b)->CT a q
theorem IP.refl(s:List Bool):IP E parts whole s s:=fun _ a k=>absurd a k
theorem IP.trans{s s1 c:List Bool}(i:IP E parts whole s s1)(k:IP E parts whole s1 c)(m:SM s1 c):IP E parts whole s c:=fun p l j T f x g=>by
 by_cases d:CT s1 p
 ·obtain⟨a,b⟩:=i p d j T f x g
  exact⟨a,fun q h e=>m q (b q h e)⟩
 ·exact k p l d T f x g
theorem RG(s:List Bool)(i p:Nat)(a:CT (s.set i true) p):p=i\/CT s p:=by
 unfold CT at*;rw[List.getD_eq_getElem?_getD,List.getElem?_set]at a;rw[List.getD_eq_getElem?_getD];by_cases e:i=p
 ·exact .inl e.symm
 ·rw[xG e]at a;exact .inr a
theorem QJ(s:List Bool)(i:Nat):SM s (s.set i true):=fun p a=>by
 unfold CT at*;rw[List.getD_eq_getElem?_getD]at*;rw[List.getElem?_set];split
 ·split
  ·rfl
  ·rename_i b c;subst b;rw[List.getElem?_eq_none (by omega)]at a;simp at a
 ·exact a
theorem RE(s:List Bool)(i:Nat)(a:i<s.length):CT (s.set i true) i:=by
 unfold CT;rw[List.getD_eq_getElem?_getD,List.getElem?_set,xH rfl,xH a];rfl
def Tr(E:CG)(parts:List Ai)(whole f:Nat):Prop:=∀i T s,Dl E parts whole i T->i<parts.length->s.length=parts.length->uns s+1<=f->(BW E parts f i T s).1=true->SM s (BW E parts f i T s).2/\CT (BW E parts f i T s).2 i/\IP E parts whole s (BW E parts f i T s).2
theorem YM{f:Nat}(z:Tr E parts whole f)(w:BP parts){i:Nat}{T:yF}(v:Dl E parts whole i T):∀(l:List As) (s:List Bool),(∀x∈l,x∈(Ax parts i).sels)->s.length=parts.length->uns s+1<=f->(Fs E parts (BW E parts f) T l s).1=true->SM s (Fs E parts (BW E parts f) T l s).2/\IP E parts whole s (Fs E parts (BW E parts f) T l s).2/\∀x∈l,Ju E parts x T/\∀q j,Fz E parts x T=some (q,j)->CT (Fs E parts (BW E parts f) T l s).2 q
 |[],s,_,_,_,_=>⟨fun _ b=>b,IP.refl _,fun x I=>by cases I⟩
 |x::l,s,m,hs,H,b=>by
  rw[Fs]at b⊢;by_cases k:(Dn E parts (BW E parts f) x T s).1=true
  ·rw[xH k]at b⊢
   have D:=Rz (QP E parts f) E parts x T s;obtain⟨h,k2,A⟩:=YM z w v l (Dn E parts (BW E parts f) x T s).2 (fun y g=>m y (yA _ g)) (D.1.trans hs) (by omega) b;obtain⟨u,C⟩:=iH k;generalize (Dn E parts (BW E parts f) x T s).2=s1 at*;generalize (Fs E parts (BW E parts f) T l s1).2=J at*;rcases C with⟨e,es⟩|⟨p,j,e,G,es⟩
   ·subst es
    refine⟨h,k2,fun y g=>?_⟩;rcases yE.1 g with a|a
    ·subst a;exact⟨u,fun q B c=>by rw[e]at c;cases c⟩
    ·exact A y a
   ·obtain⟨n,r,t⟩:=z p j s (.kid v (m x yB) e) (w.d i x (m x yB) p (Mf e)) hs H G
    rw[<-es]at n r t;refine⟨fun q F=>h q (n q F),t.trans k2 h,fun y g=>?_⟩;rcases yE.1 g with a|a
    ·subst a
     refine⟨u,fun q B c=>?_⟩;rw[e]at c;have:=(Prod.mk.inj (xD c)).1;subst this;exact h _ r
    ·exact A y a
  ·rw[xG k]at b;simp at b
theorem Ua(j:Ow parts whole)(h:BP parts):∀f,Tr E parts whole f
 |0=>fun i T s _ _ _ a=>by omega
 |f+1=>fun i T s c v hs w a=>by
  rw[BW]at a⊢;by_cases b:s.getD i false=true
  ·rw[xH b]at a⊢
   exact⟨fun _ a=>a,b,IP.refl _⟩
  ·rw[xG b]at a⊢
   have t:s[i]?=some false:=by
    have g:i<s.length:=by omega
    rw[wS g];rw[List.getD_eq_getElem?_getD,wS g]at b;simpa using b
   have y:=KD s i t;obtain⟨l,k2,u⟩:=YM (Ua j h f) h c (Ax parts i).sels (s.set i true) (fun _ a=>a) (by simpa using hs) (by omega) a;refine⟨fun p q=>l p (QJ s i p q),l i (RE s i (by omega)),fun p r n m d x k=>?_⟩;by_cases e:p=i
   ·subst e
    have:=c.uniq j d;subst this;exact u x k
   ·exact k2 p r (fun q=>(RG s i p q).elim e n) m d x k
theorem ZW(k:Ow parts whole)(i:BP parts)(l:whole<parts.length)(f:(BW E parts (parts.length+1) whole bQ (List.replicate parts.length false)).1=true){p:Nat}{T:yF}(d:Dl E parts whole p T):∀x∈(Ax parts p).sels,Ju E parts x T:=by
 obtain⟨_,e,b⟩:=Ua (E:=E) k i (parts.length+1) whole bQ (List.replicate parts.length false) .root l (by simp) (by rw[Jl];omega) f;have c:∀p,¬CT (List.replicate parts.length false) p:=fun p q=>by
  unfold CT at q;rw[List.getD_eq_getElem?_getD,List.getElem?_replicate]at q;split at q<;>simp at q
 have g:CT (BW E parts (parts.length+1) whole bQ (List.replicate parts.length false)).2 p:=by
  induction d with
  |root=>exact e
  |kid j a h m=>exact(b _ m (c _) _ j _ a).2 _ _ h
 exact fun x a=>(b p g (c p) T d x a).1
end
inductive Jt(parts:List Ai)(i:Nat):Nat->Prop
 |self:Jt parts i i
 |step {q p:Nat} {x:As}:Jt parts i q->x∈(Ax parts q).sels->x.kind≠0->x.part=some p->Jt parts i p
section
variable {parts:List Ai}
def IQ(parts:List Ai)(s a:List Bool)(b:List Nat):Prop:=∀p,CT a p->¬CT s p->p∈b/\∀x∈(Ax parts p).sels,x.kind≠0->∀q,x.part=some q->CT a q
theorem IQ.refl(s:List Bool)(l:List Nat):IQ parts s s l:=fun _ a k=>absurd a k
theorem IQ.trans{s s1 d:List Bool}{g c:List Nat}(h:IQ parts s s1 g)(k:IQ parts s1 d c)(r:SM s1 d)(n:∀j∈g,j∈c):IQ parts s d c:=fun p l i=>by
 by_cases f:CT s1 p
 ·obtain⟨a,b⟩:=h p f i
  exact⟨n p a,fun x t m q e=>r q (b x t m q e)⟩
 ·exact k p l f
def Tz(parts:List Ai)(f:Nat):Prop:=∀i l s,i<parts.length->s.length=parts.length->uns s+1<=f->SM s (BN parts f i l s).2/\CT (BN parts f i l s).2 i/\IQ parts s (BN parts f i l s).2 (BN parts f i l s).1/\∀j∈l,j∈(BN parts f i l s).1
theorem RP{f:Nat}(u:Tz parts f)(k:BP parts){i:Nat}:∀(r:List As) (l:List Nat) (s:List Bool),(∀x∈r,x∈(Ax parts i).sels)->s.length=parts.length->uns s+1<=f->SM s (CV (BN parts f) r l s).2/\IQ parts s (CV (BN parts f) r l s).2 (CV (BN parts f) r l s).1/\(∀j∈l,j∈(CV (BN parts f) r l s).1)/\∀x∈r,x.kind≠0->∀q,x.part=some q->CT (CV (BN parts f) r l s).2 q
 |[],l,s,_,_,_=>⟨fun _ n=>n,IQ.refl _ _,fun _ n=>n,fun x G=>by cases G⟩
 |x::r,l,s,t,hs,A=>by
  rw[CV];split
  ·rename_i b
   obtain⟨h,k2,m,v⟩:=RP u k r l s (fun y g=>t y (yA _ g)) hs A;refine⟨h,k2,m,fun y g c q e=>?_⟩;rcases yE.1 g with a|a
   ·subst a;rw[xG c,e]at b;cases b
   ·exact v y a c q e
  ·rename_i j b
   have w:x.part=some j:=by
    by_cases c:x.kind=0
    ·rw[xH c]at b;cases b
    ·rw[xG c]at b;exact b
   have z:=k.d i x (t x yB) j w;have F:=NG k f j l s z hs;obtain⟨B,C,D,E⟩:=u j l s z hs A;obtain⟨h,k2,m,v⟩:=RP u k r (BN parts f j l s).1 (BN parts f j l s).2 (fun y g=>t y (yA _ g)) F.1 (by omega);refine⟨fun q p=>h q (B q p),D.trans k2 h m,fun q p=>m q (E q p),fun y g c q e=>?_⟩;rcases yE.1 g with a|a
   ·subst a
    rw[w]at e;have:=xD e;subst this;exact h _ C
   ·exact v y a c q e
theorem VT(d:BP parts):∀f,Tz parts f
 |0=>fun i l s _ _ a=>by omega
 |f+1=>fun i l s u hs v=>by
  rw[BN];by_cases b:s.getD i false=true
  ·rw[xH b]
   exact⟨fun _ a=>a,b,IQ.refl _ _,fun _ a=>a⟩
  ·rw[xG b]
   have r:s[i]?=some false:=by
    have c:i<s.length:=by omega
    rw[wS c];rw[List.getD_eq_getElem?_getD,wS c]at b;simpa using b
   have w:=KD s i r;obtain⟨g,k2,h,t⟩:=RP (VT d f) d (Ax parts i).sels (l++[i]) (s.set i true) (fun _ a=>a) (by simpa using hs) (by omega);refine⟨fun p q=>g p (QJ s i p q),g i (RE s i (by omega)),fun p m k=>?_,fun j n=>h j (List.mem_append_left _ n)⟩;by_cases e:p=i
   ·subst e
    exact⟨h p (List.mem_append_right _ yB),t⟩
   ·exact k2 p m (fun q=>(RG s i p q).elim e k)
theorem Sj(n p:Nat):¬CT (List.replicate n false) p:=fun q=>by
 unfold CT at q;rw[List.getD_eq_getElem?_getD,List.getElem?_replicate]at q;split at q<;>simp at q
theorem VP(h:BP parts){i j:Nat}(f:i<parts.length)(c:Jt parts i j):j∈Bi parts i:=by
 obtain⟨_,b,a,_⟩:=VT h (parts.length+1) i [] (List.replicate parts.length false) f (by simp) (by rw[Jl];omega);have d:CT (BN parts (parts.length+1) i [] (List.replicate parts.length false)).2 j:=by
  induction c with
  |self=>exact b
  |step _ k g e l=>exact(a _ l (Sj _ _)).2 _ k g _ e
 exact(a j d (Sj _ _)).1
theorem Jt.lt(c:BP parts){i j:Nat}(b:i<parts.length)(a:Jt parts i j):j<parts.length:=by
 cases a with
 |self=>exact b
 |step _ f _ e=>exact c.d _ _ f _ e
def Ey(n:Nat)(m:List Bool)(a b:Nat):Prop:=CT m ((Cq a b).1*n+(Cq a b).2)
theorem pO(a b:Nat):Cq a b=Cq b a:=by
 unfold Cq;split<;>split<;>first|rfl|omega|(have:a=b:=by omega);subst this;rfl
theorem jT{n:Nat}{m:List Bool}{a b:Nat}(c:Ey n m a b):Ey n m b a:=by unfold Ey at*;rw[pO];exact c
def KM(parts:List Ai)(m:List Bool)(p:Nat×Nat):Prop:=∀x∈(Ax parts p.1).sels,∀y∈(Ax parts p.2).sels,x.kind=0->y.kind=0->x.key=y.key->FY x y=true/\∀a b,x.part=some a->y.part=some b->∀c∈Bi parts a,∀d∈Bi parts b,Ey parts.length m c d
theorem KM.mono{m i:List Bool}{p:Nat×Nat}(f:KM parts m p)(r:SM m i):KM parts i p:=fun x g y h c d e=>⟨(f x g y h c d e).1,fun a b l n j q k hb=>r _ ((f x g y h c d e).2 a b l n j q k hb)⟩
structure Fd(n:Nat)(g g':Bc):Prop where
 m:SM g.1 g'.1
 o:∀p∈g.2,p∈g'.2
 new:∀a b,a<n->b<n->Ey n g'.1 a b->Ey n g.1 a b\/Cq a b∈g'.2
theorem Fd.refl(n:Nat)(g:Bc):Fd n g g:=⟨fun _ a=>a,fun _ a=>a,fun _ _ _ _ a=>.inl a⟩
theorem Fd.trans{n:Nat}{g d e:Bc}(c:Fd n g d)(k:Fd n d e):Fd n g e:=⟨fun p q=>k.m p (c.m p q),fun p q=>k.o p (c.o p q),fun a b f hb q=>by
 rcases k.new a b f hb q with r|r
 ·rcases c.new a b f hb r with s|s
  ·exact .inl s
  ·exact .inr (k.o _ s)
 ·exact .inr r⟩
theorem qR{n a b c d:Nat}(hb:b<n)(hd:d<n)(e:a*n+b=c*n+d):a=c/\b=d:=by
 rcases Nat.lt_trichotomy a c with q|q|q
 ·have:(a+1)*n<=c*n:=Nat.mul_le_mul_right n q
  rw[Nat.succ_mul]at this;omega
 ·subst q;omega
 ·have:(c+1)*n<=a*n:=Nat.mul_le_mul_right n q
  rw[Nat.succ_mul]at this;omega
theorem nO{n c a b:Nat}{g:Bc}(i:BF n c g)(j:a<n)(hb:b<n):Fd n g (If n a b g)/\Ey n (If n a b g).1 a b:=by
 have d:=Sn j hb;unfold If;by_cases e:g.1.getD ((Cq a b).1*n+(Cq a b).2) false=true
 ·rw[xH e];exact⟨Fd.refl _ _,e⟩
 ·rw[xG e]
  refine⟨⟨QJ _ _,fun p q=>List.mem_append_left _ q,fun f h k m q=>?_⟩,RE _ _ (by rw[i.l];exact PY d.1 d.2)⟩;rcases RG _ _ _ q with r|r
  ·obtain⟨s,t⟩:=qR (Sn k m).2 d.2 r
   exact .inr (List.mem_append_right _ (by rw[show Cq f h=Cq a b from Prod.ext s t];exact yB))
  ·exact .inl r
theorem VB{n c a:Nat}(f:a<n):∀(l:List Nat) {g:Bc},(∀j∈l,j<n)->BF n c g->Fd n g (Jc n a l g)/\∀b∈l,Ey n (Jc n a l g).1 a b
 |[],_,_,d=>⟨Fd.refl _ _,fun b hb=>by cases hb⟩
 |b::l,g,h,d=>by
  have hb:=h b yB;obtain⟨q,r⟩:=nO d f hb;obtain⟨i,k2⟩:=VB f l (fun j k=>h j (yA _ k)) (Se d f hb);refine⟨q.trans i,fun y p=>?_⟩;rcases yE.1 p with e|e
  ·subst e;exact i.m _ r
  ·exact k2 y e
theorem VD{n c:Nat}{m:List Nat}(f:∀j∈m,j<n):∀(l:List Nat) {g:Bc},(∀j∈l,j<n)->BF n c g->Fd n g (JH n m l g)/\∀a∈l,∀b∈m,Ey n (JH n m l g).1 a b
 |[],_,_,d=>⟨Fd.refl _ _,fun b hb=>by cases hb⟩
 |a::l,g,i,d=>by
  have h:=i a yB;obtain⟨r,s⟩:=VB h m f d;obtain⟨k,k2⟩:=VD f l (fun j p=>i j (yA _ p)) (RM h m f d);refine⟨r.trans k,fun y q=>?_⟩;rcases yE.1 q with e|e
  ·subst e;exact fun b hb=>k.m _ (s b hb)
  ·exact k2 y e
theorem VF(d:BP parts){a b c:Nat}(i:a<parts.length)(hb:b<parts.length){g:Bc}(h:BF parts.length c g):Fd parts.length g (GT parts a b g)/\∀e∈Bi parts a,∀f∈Bi parts b,Ey parts.length (GT parts a b g).1 e f:=VD (Mi d hb).2 _ (Mi d i).2 h
theorem WE(C:BP parts){c:Nat}{x:As}(H:∀i,x.part=some i->i<parts.length):∀(l:List As) {g:Bc},(∀y∈l,∀i,y.part=some i->i<parts.length)->BF parts.length c g->(DM parts x l g).1=true->Fd parts.length g (DM parts x l g).2/\∀y∈l,x.kind=0->y.kind=0->x.key=y.key->FY x y=true/\∀a b,x.part=some a->y.part=some b->∀w∈Bi parts a,∀A∈Bi parts b,Ey parts.length (DM parts x l g).2.1 w A
 |[],_,_,p,_=>⟨Fd.refl _ _,fun y K=>by cases K⟩
 |y::l,g,G,p,d=>by
  have v:=fun{D:Bc} (I:BF parts.length c D) (J:(DM parts x l D).1=true)=>WE C H l (fun z f=>G z (yA _ f)) I J;rw[DM]at d⊢;by_cases B:x.kind=0/\y.kind=0/\x.key=y.key
  ·rw[xH B]at d⊢
   by_cases u:FY x y=true
   ·rw[xH u]at d⊢
    cases r:x.part with
    |none=>
     rw[r]at d;obtain⟨h,k2⟩:=v p d;refine⟨h,fun z f j k n=>?_⟩;rcases yE.1 f with e|e
     ·subst e;exact⟨u,fun a b q=>by cases q⟩
     ·exact⟨(k2 z e j k n).1,fun a b q=>by cases q⟩
    |some a=>
     rw[r]at d;cases s:y.part with
     |none=>
      rw[s]at d;obtain⟨h,k2⟩:=v p d;refine⟨h,fun z f j k n=>?_⟩;rcases yE.1 f with e|e
      ·subst e;exact⟨u,fun a b q t=>by rw[s]at t;cases t⟩
      ·have:=k2 z e j k n
       rw[r]at this;exact this
     |some b=>
      rw[s]at d;have E:=H a r;have F:=G y yB b s;obtain⟨L,M⟩:=VF C E F p;obtain⟨h,k2⟩:=v (NA C E F p) d;refine⟨L.trans h,fun z f j k n=>?_⟩;rcases yE.1 f with e|e
      ·subst e
       refine⟨u,fun P Q q t w N A O=>?_⟩;rw[s]at t;have z1:=xD q;have z2:=xD t;subst z1 z2;exact h.m _ (M w N A O)
      ·have:=k2 z e j k n
       rw[r]at this;exact this
   ·rw[xG u]at d;simp at d
  ·rw[xG B]at d⊢
   obtain⟨h,k2⟩:=v p d;refine⟨h,fun z f j k n=>?_⟩;rcases yE.1 f with e|e
   ·subst e;exact absurd ⟨j,k,n⟩ B
   ·exact k2 z e j k n
theorem WC(p:BP parts){c:Nat}{ys:List As}(q:∀y∈ys,∀i,y.part=some i->i<parts.length):∀(l:List As) {g:Bc},(∀y∈l,∀i,y.part=some i->i<parts.length)->BF parts.length c g->(GU parts ys l g).1=true->Fd parts.length g (GU parts ys l g).2/\∀x∈l,∀y∈ys,x.kind=0->y.kind=0->x.key=y.key->FY x y=true/\∀a b,x.part=some a->y.part=some b->∀h∈Bi parts a,∀j∈Bi parts b,Ey parts.length (GU parts ys l g).2.1 h j
 |[],_,_,k,_=>⟨Fd.refl _ _,fun y f=>by cases f⟩
 |x::l,g,v,k,d=>by
  rw[GU]at d⊢;by_cases n:(DM parts x ys g).1=true
  ·rw[xH n]at d⊢
   have w:=v x yB;obtain⟨E,A⟩:=WE p w ys q k n;obtain⟨B,k2⟩:=WC p q l (fun z r=>v z (yA _ r)) (Sc p w ys q k) d;refine⟨E.trans B,fun z r y f s t u=>?_⟩;rcases yE.1 r with e|e
   ·subst e
    exact⟨(A y f s t u).1,fun a b C D h F j G=>B.m _ ((A y f s t u).2 a b C D h F j G)⟩
   ·exact k2 z e y f s t u
  ·rw[xG n]at d;simp at d
def Tx(parts:List Ai)(g:Bc):Prop:=∀a b,a<parts.length->b<parts.length->Ey parts.length g.1 a b->Cq a b∈g.2\/KM parts g.1 (Cq a b)
theorem TP(i:BP parts):∀(f:Nat) (g:Bc) {c:Nat},BF parts.length c g->c+1<=f->Tx parts g->IW parts f g=true->∃m,SM g.1 m/\∀a b,a<parts.length->b<parts.length->Ey parts.length m a b->KM parts m (Cq a b)
 |0,_,_,_,x,_,_=>by omega
 |f+1,g,c,n,E,z,h=>by
  rw[IW]at h;cases u:g.2.getLast? with
  |none=>
   have A:g.2=[]:=List.getLast?_eq_none_iff.1 u;refine⟨g.1,fun _ x=>x,fun a b j hb v=>?_⟩;rcases z a b j hb v with q|q
   ·rw[A]at q;cases q
   ·exact q
  |some p=>
   rw[u]at h;simp only[]at h;have hd:g.2=g.2.dropLast++[p]:=by
    obtain⟨l,e⟩:=List.getLast?_eq_some_iff.1 u;rw[e];simp
   by_cases t:(GV parts p (g.1,g.2.dropLast)).1=true
   ·rw[xH t]at h
    have D:=n.c;have F:g.2.dropLast.length+1=g.2.length:=by rw[List.length_dropLast];have:=congrArg List.length hd;simp at this;omega
    have y:BF parts.length (c-1) (g.1,g.2.dropLast):=⟨n.l,fun q w=>n.o q (by rw[hd];exact List.mem_append_left _ w),by simp only[];omega⟩;obtain⟨k,k2⟩:=WC i (i.d p.2) (Ax parts p.1).sels (i.d p.1) y t;have hinv:Tx parts (GV parts p (g.1,g.2.dropLast)).2:=fun a b j hb v=>by
     rcases k.new a b j hb v with q|q
     ·rcases z a b j hb q with r|r
      ·rw[hd]at r
       rcases yD.1 r with s|s
       ·exact .inl (k.o _ s)
       ·rw[List.mem_singleton]at s
        refine .inr ?_;rw[s];exact k2
      ·exact .inr (r.mono k.m)
     ·exact .inl q
    obtain⟨m,B,C⟩:=TP i f _ (WF i y) (by omega) hinv h;exact⟨m,fun q w=>B q (k.m q w),C⟩
   ·rw[xG t]at h;simp at h
theorem ZP(c:BP parts){whole:Nat}(d:whole<parts.length)(g:KP parts whole=true):∃m,(∀a∈Bi parts whole,∀b∈Bi parts whole,Ey parts.length m a b)/\∀a b,a<parts.length->b<parts.length->Ey parts.length m a b->KM parts m (Cq a b):=by
 have f:BF parts.length (parts.length*parts.length) (List.replicate (parts.length*parts.length) false,[]):=⟨by simp,fun p c=>(by cases c),by rw[Jl];simp⟩;obtain⟨i,j⟩:=VF c d d f;obtain⟨m,k,l⟩:=TP c _ _ (NA c d d f) (wQ _) (fun a b e hb h=>by
  rcases i.new a b e hb h with q|q
  ·exact absurd q (Sj _ _)
  ·exact .inl q) g
 exact⟨m,fun a e b hb=>k _ (j a e b hb),l⟩
end
def Id(x:As):List Nat:=if x.kind=1 then []else x.part.toList
def Km(P:Ai):List Nat:=P.sels.flatMap Id
def Fo(Ps:List Ai):List Nat:=Ps.flatMap Km
theorem Pf(a b:List Ai):Fo (a++b)=Fo a++Fo b:=List.flatMap_append
theorem kG(P:Ai)(a:List Ai):Fo (P::a)=Km P++Fo a:=rfl
def FU(n m:Nat)(l:List Nat):Prop:=∀k,l.count k<=1/\(0<l.count k->n<=k/\k<m)
theorem FU.nil(n m:Nat):FU n m []:=fun k=>by simp
def QB(part:Nat->yF->St->List Ai×St):Prop:=∀n typ s,FU (n+1) (n+(part n typ s).1.length) (Fo (part n typ s).1)/\1<=(part n typ s).1.length
def QL(a:Nat->St->As×List Ai×St):Prop:=∀n s,FU n (n+(a n s).2.1.length) (Id (a n s).1++Fo (a n s).2.1)
theorem VJ{n m:Nat}{l:List Nat}(a:FU (n+1) m l)(f:n<m):FU n m (n::l):=fun k=>by
 have b:=a k;rw[List.count_cons];by_cases e:n=k
 ·subst e
  have d:l.count n=0:=by
   rcases Nat.eq_zero_or_pos (l.count n)with q|q
   ·exact q
   ·have:=(a n).2 q;omega
  simp[d];omega
 ·have c:(n==k)=false:=by simp[e]
  rw[c];refine⟨by simp;exact b.1,fun q=>?_⟩;have:=b.2 (by simpa using q);omega
theorem rJ{part:Nat->yF->St->List Ai×St}(b:QB part):QL (EE part):=by
 intro n s;unfold EE;split
 ·split
  ·exact FU.nil _ _
  ·unfold JN
   have a:=b n (Gd (tl s)).1 (qConds 801 (Gd (tl s)).2).2;exact VJ a.1 (by have:=a.2;simp only[];omega)
 ·unfold IH
  simp only[];split
  ·have a:=b n ⟨#[]⟩ (qConds 801 (GB (Ex s).2).2).2
   exact VJ a.1 (by have:=a.2;simp only[];omega)
  ·exact FU.nil _ _
theorem Ye{a:Nat->St->As×List Ai×St}(hs:QL a):∀(f n:Nat) (s:St),FU n (n+(Cr a f n s).2.1.length) ((Cr a f n s).1.flatMap Id++Fo (Cr a f n s).2.1)
 |0,n,s=>FU.nil _ _
 |f+1,n,s=>by
  rw[Cr];split
  ·exact FU.nil _ _
  split
  ·exact FU.nil _ _
  ·have b:=hs n s
   have c:=Ye hs f (n+(a n s).2.1.length) (a n s).2.2;simp only[];intro k;have d:=b k;have e:=c k;rw[List.count_append]at d e;rw[List.flatMap_cons,Pf,List.count_append,List.count_append,List.count_append,xJ];omega
theorem rC{a:Nat->St->As×List Ai×St}(hs:QL a)(d:Nat):QB (fun n typ s=>FK a n d typ s):=by
 intro n typ s;unfold FK;have b:=hs (n+1) (nK (BB (d+1) s) 14);have c:=Ye hs 801 (n+1+(a (n+1) (nK (BB (d+1) s) 14)).2.1.length) (a (n+1) (nK (BB (d+1) s) 14)).2.2;simp only[];refine⟨fun k=>?_,by simp⟩;have e:=b k;have f:=c k;rw[List.count_append]at e f;rw[kG,Pf];show(((a (n+1) (nK (BB (d+1) s) 14)).1::_).flatMap Id++_).count k<=1/\(0<(((a (n+1) (nK (BB (d+1) s) 14)).1::_).flatMap Id++_).count k->_);rw[List.flatMap_cons,List.count_append,List.count_append,List.count_append,xU,xJ];omega
theorem Ya:∀(f d:Nat),QB (fun n typ s=>BD f n d typ s)
 |0,d=>fun n typ s=>⟨FU.nil _ _,by simp[BD]⟩
 |f+1,d=>rC (rJ (Ya f (d+1))) d
def Hr(Ps:List Ai):Prop:=∀P∈Ps,∀x∈P.sels,x.kind=1->x.part=none
theorem Hr.app{a b:List Ai}(c:Hr a)(k:Hr b):Hr (a++b):=fun P d=>(yD.1 d).elim (c P) (k P)
theorem rK{part:Nat->yF->St->List Ai×St}(c:∀n typ s,Hr (part n typ s).1):∀n s,((EE part n s).1.kind=1->(EE part n s).1.part=none)/\Hr (EE part n s).2.1:=by
 intro n s;unfold EE;split
 ·split
  ·exact⟨fun _=>rfl,fun P b=>by cases b⟩
  ·exact⟨fun a=>(by cases a),c _ _ _⟩
 ·unfold IH
  simp only[];split
  ·exact⟨fun a=>(by cases a),c _ _ _⟩
  ·exact⟨fun _=>rfl,fun P b=>by cases b⟩
theorem Yf{b:Nat->St->As×List Ai×St}(hs:∀n s,((b n s).1.kind=1->(b n s).1.part=none)/\Hr (b n s).2.1):∀(f n:Nat) (s:St),(∀x∈(Cr b f n s).1,x.kind=1->x.part=none)/\Hr (Cr b f n s).2.1
 |0,n,s=>⟨fun x a=>(by cases a),fun P c=>(by cases c)⟩
 |f+1,n,s=>by
  rw[Cr];split
  ·exact⟨fun x a=>(by cases a),fun P c=>(by cases c)⟩
  split
  ·exact⟨fun x a=>(by cases a),fun P c=>(by cases c)⟩
  ·have d:=hs n s
   have g:=Yf hs f (n+(b n s).2.1.length) (b n s).2.2;refine⟨fun x a=>?_,d.2.app g.2⟩;rcases yE.1 a with e|e
   ·rw[e];exact d.1
   ·exact g.1 x e
theorem Yb:∀(f n d:Nat) (typ:yF) (s:St),Hr (BD f n d typ s).1
 |0,n,d,typ,s=>fun P a x b=>by rw[BD,List.mem_singleton]at a;rw[a]at b;cases b
 |f+1,n,d,typ,s=>by
  rw[BD];unfold FK;have hs:=rK (part:=fun n typ s=>BD f n (d+1) typ s) (fun n typ s=>Yb f n (d+1) typ s);have g:=hs (n+1) (nK (BB (d+1) s) 14);have h:=Yf hs 801 (n+1+(EE (fun n typ s=>BD f n (d+1) typ s) (n+1) (nK (BB (d+1) s) 14)).2.1.length) (EE (fun n typ s=>BD f n (d+1) typ s) (n+1) (nK (BB (d+1) s) 14)).2.2;intro P a;rcases yE.1 a with e|e
  ·rw[e]
   intro x b;rcases yE.1 b with c|c
   ·rw[c];exact g.1
   ·exact h.1 x c
  ·exact(g.2.app h.2) P e
theorem WV(k:Nat)(a:k≠0):nK none k=none:=by unfold nK;rw[IA k a];rfl
theorem rG(f n d:Nat)(typ:yF):(BD (f+1) n d typ none).2=none:=by
 rw[BD];unfold FK;simp only[];have a:BB (d+1) none=none:=by unfold BB;split<;>rfl
 rw[a,WV 14 (by decide)];have hs:∀part m,(EE part m none).2.2=none:=by
  intro part m;unfold EE;rw[IA 4 (by decide)];simp only[xR,if_false];unfold IH;have b:nmT none=none:=rfl;have c:Ex none=(nm none,none):=by unfold Ex;rw[b,IA 9 (by decide)];rfl
  rw[c];have e:GB none=([],none):=by unfold GB;rw[IA 7 (by decide)];rfl
  rw[e];simp only[];rw[XT 801 none (IA 11 (by decide))];simp only[];rw[IA 14 (by decide)];rfl
 rw[hs,SF _ 801 _ none (by rfl)];exact WV 15 (by decide)
theorem rH(f n d:Nat)(typ:yF)(s:St):((BD (f+1) n d typ s).1.head?.map Ai.typ)=some typ:=by rw[BD];rfl
structure QT(Q:Qy):Prop where
 c:∀k,(Fo Q.parts).count k+((Q.ops.map Prod.snd).count k+(Q.frags.map Prod.snd).count k)<=1/\(0<(Fo Q.parts).count k+((Q.ops.map Prod.snd).count k+(Q.frags.map Prod.snd).count k)->k<Q.parts.length)
 s:Hr Q.parts
def Gm(Q:Qy):Prop:=∀x∈Q.frags,(Ax Q.parts x.2).typ≠bE
theorem qK{a b:List Ai}{i:Nat}(c:i<a.length):Ax (a++b) i=Ax a i:=by
 unfold Ax;rw[List.getD_eq_getElem?_getD,List.getD_eq_getElem?_getD,xN c]
theorem QT.frt{Q:Qy}(a:QT Q)(x:Db)(b:x∈Q.frags):x.2<Q.parts.length:=
 (a.c x.2).2 (by have:0<(Q.frags.map Prod.snd).count x.2:=List.count_pos_iff.2 (List.mem_map_of_mem b);omega)
theorem QT.op{Q:Qy}{b:List Ai}{v:List Eb}(a:QT Q)(hb:FU (Q.parts.length+1) (Q.parts.length+b.length) (Fo b))(d:1<=b.length)(hs:Hr b):QT ⟨Q.ops++[(v,Q.parts.length)],Q.frags,Q.parts++b⟩:=⟨fun k=>by
 have f:=a.c k;have g:=hb k;simp only[Pf,List.count_append,xY,List.map_cons,List.map_nil,xJ,List.count_cons,List.count_nil];by_cases e:Q.parts.length=k
 ·have:(Q.parts.length==k)=true:=by simp[e]
  rw[this];simp;omega
 ·have:(Q.parts.length==k)=false:=by simp[e]
  rw[this];simp;omega,a.s.app hs⟩
theorem QT.fr{Q:Qy}{b:List Ai}{v:yF}(a:QT Q)(hb:FU (Q.parts.length+1) (Q.parts.length+b.length) (Fo b))(d:1<=b.length)(hs:Hr b):QT ⟨Q.ops,Q.frags++[(v,Q.parts.length)],Q.parts++b⟩:=⟨fun k=>by
 have f:=a.c k;have g:=hb k;simp only[Pf,List.count_append,xY,List.map_cons,List.map_nil,xJ,List.count_cons,List.count_nil];by_cases e:Q.parts.length=k
 ·have:(Q.parts.length==k)=true:=by simp[e]
  rw[this];simp;omega
 ·have:(Q.parts.length==k)=false:=by simp[e]
  rw[this];simp;omega,a.s.app hs⟩
theorem Gm.more{Q:Qy}{b:List Ai}{ops:List Ot}(d:QT Q)(c:Gm Q):Gm ⟨ops,Q.frags,Q.parts++b⟩:=fun x a=>by
 show(Ax (Q.parts++b) x.2).typ≠bE;rw[qK (d.frt x a)];exact c x a
theorem TB.nm1{s:St}(b:TB s)(k:Go.Proofs.YtogdodlibkckkaaGreatDoor.nmT s≠Option.none):Go.Proofs.YtogdodlibkckkaaGreatDoor.nm s≠bE:=by
 unfold Go.Proofs.YtogdodlibkckkaaGreatDoor.nmT at k;unfold Go.Proofs.YtogdodlibkckkaaGreatDoor.nm;by_cases e:Ae s 1=true
 ·rw[xH e]
  cases s with
  |none=>rw[IA 1 (by decide)]at e;cases e
  |some l=>cases l with
   |nil=>rw[Lf 1 (by decide)]at e;cases e
   |cons t l=>
    have a:=((b t (by simp)).2 (by simpa [Ae,Go.Proofs.YtogdodlibkckkaaGreatDoor.hd]using e)).1;intro q;have c:t.s=bE:=q;rw[c]at a;exact absurd a (by decide)
 ·rw[xG e]at k;exact absurd rfl k
theorem XV{q:Qy}{s:St}(d:QT q):QT (Cl q s).1/\(TB s->(s≠none->Gm q)->(Cl q s).2≠none->Gm (Cl q s).1):=by
 have i:=fun n typ s=>Ya 11 0 n typ s;have j:=fun n typ s=>Yb 11 n 0 typ s;have m:(Cl q none).2=none:=by
  unfold Cl;rw[IA 14 (by decide)];rfl
 have g:(Cl q s).2≠none->s≠none:=fun f e=>by subst e;exact f m
 suffices key:QT (Cl q s).1/\(TB s->Gm q->(Cl q s).2≠none->Gm (Cl q s).1)from⟨key.1,fun hb b f=>key.2 hb (b (g f)) f⟩
 clear m g;unfold Cl;unfold II;split
 ·have c:=i q.parts.length ⟨#[]⟩ s
  exact⟨d.op c.1 c.2 (j _ _ _),fun _ b _=>Gm.more d b⟩
 split
 ·rw[My]
  have c:=i q.parts.length ⟨#[]⟩ (GF (mayT (tl s) (Ae (tl s) 1))).2;exact⟨d.op c.1 c.2 (j _ _ _),fun _ b _=>Gm.more d b⟩
 split
 ·unfold EX II
  simp only[];generalize v:nW (nmT (EY (tl s))) Dw=a;have c:=i q.parts.length (nm a) (nmT a);refine⟨d.fr c.1 c.2 (j _ _ _),fun hb b g x w=>?_⟩;rcases yD.1 w with e|e
  ·exact Gm.more (ops:=q.ops) d b x e
  ·rw[List.mem_singleton]at e
   rw[e];show(Ax (q.parts++(BD 11 q.parts.length 0 (nm a) (nmT a)).1) q.parts.length).typ≠bE;have u:nmT a≠none:=fun z=>g (by rw[z];exact rG 10 _ _ _);have h:=rH 10 q.parts.length 0 (nm a) (nmT a);have t:TB a:=by
    rw[<-v];refine TB.nW (TB.nmT ?_) _;unfold EY;split
    ·exact TB.none
    ·exact hb.tl
   cases k:(BD 11 q.parts.length 0 (nm a) (nmT a)).1 with
   |nil=>rw[k]at h;cases h
   |cons P l=>
    rw[k]at h;have p:P.typ=nm a:=by simpa using h
    have r:Ax (q.parts++P::l) q.parts.length=P:=by
     unfold Ax;rw[List.getD_eq_getElem?_getD,xO (wQ _)];simp
    rw[r,p];exact t.nm1 u
 ·exact⟨d,fun _ b _=>b⟩
theorem XY:∀(f:Nat) {q:Qy} {s:St},QT q->TB s->QZ q->(s≠none->Gm q)->QT (FJ f q s).1/\((FJ f q s).2≠none->Gm (FJ f q s).1)
 |0,q,s,b,_,_,a=>⟨b,a⟩
 |f+1,q,s,b,hb,e,a=>by
  rw[FJ];split
  ·exact⟨b,a⟩
  ·have c:=XV (s:=s) b
   have d:=Mx e hb;exact XY f c.1 d.2 d.1 (c.2 hb a)
theorem Yd(x:yF):QT (Bk (Ad x)).1/\((Bk (Ad x)).2≠none->Gm (Bk (Ad x)).1):=by
 have d:QT ⟨[],[],[]⟩:=⟨fun k=>by simp[Fo],fun P e=>by cases e⟩;have f:QZ ⟨[],[],[]⟩:=⟨PZ.nil,fun x a=>by simp at a,fun x a=>by simp at a⟩;have b:=XV (s:=Ad x) d;have c:=Mx f (TB.cut x);exact XY 801 b.1 c.2 c.1 (b.2 (TB.cut x) (fun _ x a=>by cases a))
theorem Rx{β:Type}(f:β->List Nat)(p:Nat):∀(l:List β) (q g:Nat) (P c:β),l[q]?=some P->l[g]?=some c->p∈f P->p∈f c->(l.flatMap f).count p<=1->q=g
 |[],q,_,P,_,a,_,_,_,_=>by simp at a
 |y::l,0,0,_,_,_,_,_,_,_=>rfl
 |y::l,0,g+1,P,c,a,b,m,e,d=>by
  simp at a b;subst a;rw[List.flatMap_cons,List.count_append]at d;have h:0<(f y).count p:=List.count_pos_iff.2 m;have i:0<(l.flatMap f).count p:=List.count_pos_iff.2 (List.mem_flatMap.2 ⟨c,wT b,e⟩);omega
 |y::l,q+1,0,P,c,a,b,m,e,d=>by
  simp at a b;subst b;rw[List.flatMap_cons,List.count_append]at d;have h:0<(f y).count p:=List.count_pos_iff.2 e;have i:0<(l.flatMap f).count p:=List.count_pos_iff.2 (List.mem_flatMap.2 ⟨P,wT a,m⟩);omega
 |y::l,q+1,g+1,P,c,a,b,m,e,d=>by
  simp at a b;rw[List.flatMap_cons,List.count_append]at d;rw[Rx f p l q g P c a b m e (by omega)]
theorem UI{β:Type}(f:β->List Nat)(p:Nat):∀(l:List β) (P:β),P∈l->(f P).count p<=(l.flatMap f).count p
 |[],P,a=>by cases a
 |y::l,P,a=>by
  rw[List.flatMap_cons,List.count_append];rcases yE.1 a with e|e
  ·subst e;omega
  ·have:=UI f p l P e;omega
def Lh(l:AN)(a:List Db)(x:As):As:=Hu l (BZ a x)
def GC(l:AN)(Q:Qy):List Ai:=Q.parts.map (fun P=>⟨P.typ,P.sels.map (Lh l Q.frags)⟩)
theorem VV(l:AN)(Q:Qy):(CS l (BY Q)).parts=GC l Q:=by
 unfold CS BY GC;simp only[List.map_map];congr 1;funext P;simp only[Function.comp,List.map_map];rfl
theorem XG(l:AN)(Q:Qy)(q:Nat):Ax (GC l Q) q=⟨(Ax Q.parts q).typ,(Ax Q.parts q).sels.map (Lh l Q.frags)⟩:=by
 unfold Ax GC;rw[List.getD_eq_getElem?_getD,List.getD_eq_getElem?_getD,xI];cases Q.parts[q]?<;>rfl
theorem Lp{parts:List Ai}{q:Nat}{x:As}(a:x∈(Ax parts q).sels):parts[q]?=some (Ax parts q):=by
 unfold Ax at*;rw[List.getD_eq_getElem?_getD]at*;cases e:parts[q]? with
 |none=>rw[e]at a;cases a
 |some P=>rfl
theorem NI{l:AN}{Q:Qy}{q:Nat}{x:As}(b:x∈(Ax (GC l Q) q).sels):∃a∈(Ax Q.parts q).sels,x=Lh l Q.frags a:=by
 rw[XG]at b;obtain⟨a,c,e⟩:=List.mem_map.1 b;exact⟨a,c,e.symm⟩
theorem RR(l:AN)(a:List Db)(x:As):(Lh l a x).kind=x.kind:=(Po a x).1
theorem NH{l:AN}{a:List Db}{x:As}(b:x.kind≠1):(Lh l a x).part=x.part:=by
 show(BZ a x).part=x.part;unfold BZ;rw[xG b]
theorem fI{b:List Db}{n:yF}{p:Nat}(a:Iw b n=some p):∃x∈b,x.2=p:=by
 unfold Iw at a;split at a
 ·cases a
 ·obtain⟨y,c,e⟩:=yC.1 a
  exact⟨y,wT c,e⟩
theorem VU{l:AN}{a:List Db}{x:As}{p:Nat}(c:x.kind=1)(d:x.part=none)(e:(Lh l a x).part=some p):∃y∈a,y.2=p:=by
 have e:(BZ a x).part=some p:=e;unfold BZ at e;rw[xH c]at e;cases b:Iw a x.name with
 |none=>rw[b]at e;simp only[]at e;rw[d]at e;cases e
 |some i=>rw[b]at e;simp only[]at e;rw[<-xD e];exact fI b
section
variable {Q:Qy} {l:AN} {whole:Nat}
theorem Pe{q p:Nat}{a:As}(d:a∈(Ax Q.parts q).sels)(e:a.kind≠1)(f:a.part=some p):p∈Id a/\p∈Km (Ax Q.parts q)/\0<(Fo Q.parts).count p:=by
 have b:p∈Id a:=by unfold Id;rw[xG e,f];simp
 have c:p∈Km (Ax Q.parts q):=List.mem_flatMap.2 ⟨a,d,b⟩;exact⟨b,c,List.count_pos_iff.2 (List.mem_flatMap.2 ⟨_,wT (Lp d),c⟩)⟩
theorem uX(m:QT Q)(I:Gm Q)(K:whole∈Q.ops.map Prod.snd):Ow (GC l Q) whole:=by
 have v:∀{q:Nat} {i:As} {p:Nat},i∈(Ax Q.parts q).sels->i.kind=1->(Lh l Q.frags i).part=some p->0<(Q.frags.map Prod.snd).count p/\(Ax Q.parts p).typ≠bE:=fun{q i p} d z b=>by
  obtain⟨y,a,e⟩:=VU z (m.s _ (wT (Lp d)) i d z) b;exact⟨List.count_pos_iff.2 (List.mem_map.2 ⟨y,a,e⟩),by rw[<-e];exact I y a⟩
 refine⟨fun q A p x M d t k f b g=>?_,fun q x d b=>?_,fun q A p x M d t k b g=>?_⟩
 ·obtain⟨y,a,e⟩:=NI d
  obtain⟨B,h,n⟩:=NI t;subst e n;rw[RR]at k f;rw[NH k]at b;rw[NH f]at g;obtain⟨C,D,N⟩:=Pe a k b;obtain⟨E,F,O⟩:=Pe h f g;have u:=(m.c p).1;have J:=Rx Km p Q.parts q A _ _ (Lp a) (Lp h) D F (by show(Fo Q.parts).count p<=1;omega);subst J;refine⟨rfl,?_⟩;obtain⟨j,w⟩:=List.mem_iff_getElem?.1 a;obtain⟨L,r⟩:=List.mem_iff_getElem?.1 h;have H:((Ax Q.parts q).sels.flatMap Id).count p<=1:=by
   have:=UI Km p Q.parts _ (wT (Lp a));have P:(Km (Ax Q.parts q)).count p<=(Fo Q.parts).count p:=this;show(Km (Ax Q.parts q)).count p<=1;omega
  have:=Rx Id p _ j L _ _ w r C E H;subst this;rw[w]at r;rw[xD r]
 ·obtain⟨y,a,e⟩:=NI d
  subst e;have R:0<(Q.ops.map Prod.snd).count whole:=List.count_pos_iff.2 K;have u:=(m.c whole).1;by_cases k:y.kind=1
  ·have:=(v a k b).1;omega
  ·rw[NH k]at b
   have:=(Pe a k b).2.2;omega
 ·obtain⟨y,a,e⟩:=NI d
  obtain⟨B,h,n⟩:=NI t;subst e n;rw[RR]at k;obtain⟨f1,G⟩:=v a k b;refine⟨?_,by rw[XG];exact G⟩;rw[RR];by_cases f:B.kind=1
  ·exact f
  ·rw[NH f]at g
   have:=(Pe h f g).2.2;have u:=(m.c p).1;omega
theorem XI(a:QT Q):BP (GC l Q):=fun P j x n i b=>by
 obtain⟨g,d,rfl⟩:=List.mem_map.1 j;obtain⟨y,f,rfl⟩:=List.mem_map.1 n;have m:(GC l Q).length=Q.parts.length:=by unfold GC;simp
 rw[m];by_cases k:y.kind=1
 ·obtain⟨z,p,e⟩:=VU k (a.s _ d y f k) b
  rw[<-e];exact a.frt z p
 ·rw[NH k]at b
  have h:i∈Id y:=by unfold Id;rw[xG k,b];simp
  have q:0<(Fo Q.parts).count i:=List.count_pos_iff.2 (List.mem_flatMap.2 ⟨g,d,List.mem_flatMap.2 ⟨y,f,h⟩⟩);exact(a.c i).2 (by omega)
end
end Go.Proofs.YtogdodlibkckkaaGreatDoor
