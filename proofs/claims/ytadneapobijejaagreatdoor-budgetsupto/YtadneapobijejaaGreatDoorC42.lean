import Derived.Test.YtadneapobijejaaGreatDoorC34
import Derived.Lib.ItoaLen
namespace Go.Proofs.YtadneapobijejaaGreatDoor
set_option maxHeartbeats 20000000
set_option maxRecDepth 100000
open Go.RowKit Tryz
structure Gr(s s':Aj)(c e:Nat):Prop where
 d:s'.data.length+20000000*s'.left.toNat<=s.data.length+20000000*s.left.toNat+c
 e:s'.errs.length+60000000*s'.left.toNat<=s.errs.length+60000000*s.left.toNat+e
def PB(s:Aj):Prop:=s.path.length+5000*s.left.toNat<=25010000
def LB(N:Nat)(s s':Aj):Prop:=min s.left 0-N<=s'.left
theorem Gr.refl(s:Aj):Gr s s 0 0:=⟨tL _,tL _⟩
theorem Gr.mono{s s':Aj}{c e c' e':Nat}(h:Gr s s' c e)(hc:c<=c')(he:e<=e'):Gr s s' c' e':=⟨by have:=h.d;omega,by have:=h.e;omega⟩
theorem Gr.trans{a b d:Aj}{c e c' e':Nat}(h:Gr a b c e)(k:Gr b d c' e'):Gr a d (c+c') (e+e'):=⟨by have:=h.d;have:=k.d;omega,by have:=h.e;have:=k.e;omega⟩
theorem Gr.write(s:Aj)(t:List UInt8):Gr s (s.write t) t.length 0:=⟨by show(s.data++t).length+20000000*s.left.toNat<=_;rw[uE];omega,tL _⟩
theorem Gr.left(s:Aj)(n:Nat):Gr s (s.leave n) 0 0:=⟨tL _,tL _⟩
theorem Gr.enter(s:Aj)(t:List UInt8):Gr s (s.enter t) 0 0:=⟨tL _,tL _⟩
theorem XH(l:List UInt8):(Cj l).length<=l.length+1:=by
 unfold Cj;split
 ·simp
 ·simp
theorem Gr.fail(s:Aj)(h:PB s):Gr s s.fail 0 25010050:=⟨tL _,by
 show(Cj s.errs++Ie++s.path++JP).length+60000000*s.left.toNat<=_;have h1:=XH s.errs;have h2:Ie.length=35:=rfl;have h3:JP.length=2:=rfl;unfold PB at h;simp only[uE];omega⟩
theorem PB.pl{s s':Aj}(h:PB s)(k:PL s s'):PB s':=by
 unfold PB at*;rw[k.1];have:=k.2;omega
theorem Gr.cut(s:Aj)(n:Nat):Gr s (s.cutNull n) 4 0:=⟨by
 show(s.data.take n++Hy).length+20000000*s.left.toNat<=_;rw[uE,List.length_take,show Hy.length=4 from rfl];omega,tL _⟩
theorem Gr.settle(n how:Nat)(st:Bool)(s:Aj)(h:PB s):Gr s (BE n how st s).2 4 25010050:=by
 unfold BE;split
 ·exact(Gr.refl s).mono (by omega) (by omega)
 ·show Gr s (if how=1/\st=true then(s.cutNull n).fail else s.cutNull n) _ _
  split
  ·exact((Gr.cut s n).trans (Gr.fail (s.cutNull n) h)).mono (by omega) (by omega)
  ·exact(Gr.cut s n).mono (by omega) (by omega)
theorem LB.settle(n how:Nat)(st:Bool)(s:Aj):(BE n how st s).2.left=s.left:=by
 unfold BE;split
 ·rfl
 ·show(if how=1/\st=true then(s.cutNull n).fail else s.cutNull n).left=_
  split<;>rfl
def Bx(n:Int):Prop:= -9223372036854775808<=n/\n<=9223372036854775807
theorem Bx.len{n:Int}(h:Bx n):(AH n).length<=100:=by
 have:=Go.Lib.itoa_length_le n h.1 h.2;unfold AH;omega
def VS:Nat->RV->Prop
 |0,.mk _ n t l=>t.size<=4000/\Bx n/\l=[]
 |m+1,.mk _ n t l=>t.size<=4000/\Bx n/\l.length<=1000/\∀c∈l,VS m c
theorem XE(k:Nat)(n:Int)(t:vD)(h1:t.size<=4000)(h0:Bx n):(Me k n t).length<=10000:=by
 have h2:=h0.len;unfold Me;have:=Nt t.data.toList;have h3:t.data.toList.length=t.size:=by simp
 split
 ·omega
 split
 ·omega
 split
 ·decide
 split<;>simp[Su]
structure Ia(E:AJ):Prop where
 nm:(Hs E.names).length<=10000000
 fl:∀t,(KH E t).length<=10000000
 on:∀k,(E.obj k).name.size<=4000
 key:∀of ps,∀f∈Dt E.parts of ps,f.1.key.size<=4000
 row:∀id r,E.row id=some r->∀n,VS 1603 (Fm r n)
def Ei(r:MR):Prop:=∀n,VS 1603 (Fm r n)
structure JH(N:Nat)(obj:BW):Prop where
 g:∀r ps s,Ei r->PB s->Gr s (obj r ps s).2 2 0
 l:∀r ps s,Ei r->PB s->LB N s (obj r ps s).2
section
variable {E:AJ} {obj:BW} {N:Nat}
theorem RW(h:JH N obj)(r:Option MR)(hr:∀x,r=some x->Ei x)(ps:List Nat)(s:Aj)(hp:PB s):Gr s (Fb obj r ps s).2 10000 25010050:=by
 cases r with
 |none=>exact(Gr.fail s hp).mono (by omega) (by omega)
 |some r=>exact(h.g r ps s (hr r rfl) hp).mono (by omega) (by omega)
theorem RX(h:JH N obj)(r:Option MR)(hr:∀x,r=some x->Ei x)(ps:List Nat)(s:Aj)(hp:PB s):LB N s (Fb obj r ps s).2:=by
 cases r with
 |none=>show min s.left 0-N<=s.left;omega
 |some r=>exact h.l r ps s (hr r rfl) hp
theorem PB.step{s s1:Aj}{t:List UInt8}(h:PB s)(h0:¬s.step.left<0)(e1:s1.left=s.step.left)(e2:s1.path=s.path)(ht:t.length<=4900):PB (s1.enter t):=by
 unfold PB at*;show(Cj s1.path++t).length+5000*s1.left.toNat<=_;rw[uE,e1,e2];have h1:=XH s.path;have h2:s.step.left=s.left-1:=rfl;omega
theorem Gr.paid{s s1:Aj}(h0:¬s.step.left<0)(e1:s1.left=s.step.left)(hd:s1.data.length<=s.data.length+1)(he:s1.errs=s.errs){s':Aj}{c e:Nat}(h:Gr s1 s' c e)(hc:c+1<=20000000)(hee:e<=60000000):Gr s s' 0 0:=by
 have h2:s.step.left=s.left-1:=rfl;have h3:=h.d;have h4:=h.e;rw[he]at h4;rw[e1]at h3 h4;exact⟨by omega,by omega⟩
theorem QX{i:Nat}(h:i<=100000):(AH i).length<=100:=Bx.len ⟨by omega,by omega⟩
def SR(E:AJ)(obj:BW)(N m:Nat):Prop:=∀(c:RV) (ty:Bo) (ps:List Nat) (s:Aj),VS m c->PB s->Gr s (Bj E obj c ty ps s).2 10000 25010050/\LB (N+m) s (Bj E obj c ty ps s).2
def YI(E:AJ)(obj:BW)(N m:Nat):Prop:=∀(l:List RV) (i:Nat) (ty:Bo) (ps:List Nat) (how:Nat) (s:Aj),(∀c∈l,VS m c)->i+l.length<=100000->PB s->Gr s (BO E obj l i ty ps how s).2 1 0/\(s.left<=0->s.left-1<=(BO E obj l i ty ps how s).2.left)/\(0<=s.left-> -((N+m+1:Nat):Int)<=(BO E obj l i ty ps how s).2.left)
theorem fV(hpl:Ez obj){m:Nat}(hv:SR E obj N m):YI E obj N m:=by
 intro l
 induction l with
 |nil=>
  intro i ty ps how s _ _ _;rw[BO];exact⟨Gr.write s [93],fun h=>by show s.left-1<=s.left;omega,fun h=>by show _<=s.left;omega⟩
 |cons c l ih=>
  intro i ty ps how s hc hi hp;rw[uQ]at hi;rw[BO];by_cases e:s.step.left<0
  ·rw[uC e]
   have h2:s.step.left=s.left-1:=rfl;refine⟨⟨?_,?_⟩,fun h=>?_,fun h=>?_⟩
   ·show s.data.length+20000000*s.step.left.toNat<=_
    omega
   ·show s.errs.length+60000000*s.step.left.toNat<=_
    omega
   ·show s.left-1<=s.step.left
    omega
   ·show _<=s.step.left
    omega
  ·rw[uB e]
   have h1:(if 0<i then s.step.write [44]else s.step).left=s.step.left/\(if 0<i then s.step.write [44]else s.step).path=s.path/\(if 0<i then s.step.write [44]else s.step).errs=s.errs/\(if 0<i then s.step.write [44]else s.step).data.length<=s.data.length+1:=by
    split
    ·exact⟨rfl,rfl,rfl,by show(s.data++[44]).length<=_;simp⟩
    ·exact⟨rfl,rfl,rfl,by show s.data.length<=_;omega⟩
   generalize (if 0<i then s.step.write [44]else s.step)=s1 at*;obtain⟨e1,e2,e3,e4⟩:=h1;simp only[];have hp2:PB (s1.enter (AH i)):=hp.step e e1 e2 (by have:=QX (i:=i) (by omega);omega);obtain⟨g1,l1⟩:=hv c ty ps (s1.enter (AH i)) (hc c uX) hp2;have p1:=Mj E hpl c ty ps (s1.enter (AH i));have g2:=Gr.settle (s1.enter (AH i)).data.length (Bj E obj c ty ps (s1.enter (AH i))).1 (CA ty) _ (hp2.pl p1);have p2:=PL.settle (s1.enter (AH i)).data.length (Bj E obj c ty ps (s1.enter (AH i))).1 (CA ty) (Bj E obj c ty ps (s1.enter (AH i))).2;have l2:=LB.settle (s1.enter (AH i)).data.length (Bj E obj c ty ps (s1.enter (AH i))).1 (CA ty) (Bj E obj c ty ps (s1.enter (AH i))).2;generalize BE (s1.enter (AH i)).data.length (Bj E obj c ty ps (s1.enter (AH i))).1 (CA ty) (Bj E obj c ty ps (s1.enter (AH i))).2=z at*;have g3:Gr s1 (z.2.leave s1.path.length) 10004 50020100:=((((Gr.enter s1 (AH i)).trans g1).trans g2).trans (Gr.left z.2 s1.path.length)).mono (by omega) (by omega);have g4:Gr s (z.2.leave s1.path.length) 0 0:=g3.paid e e1 e4 e3 (by omega) (by omega);have p3:PL s1 (z.2.leave s1.path.length):=PL.around (p1.trans p2);have p4:PL s (z.2.leave s1.path.length):=⟨p3.1.trans e2,by have:=p3.2;have:s.step.left=s.left-1:=rfl;omega⟩;obtain⟨i1,i2,i3⟩:=ih (i+1) ty ps (if z.1=true then how else 2) (z.2.leave s1.path.length) (fun c' hc'=>hc c' (uW _ hc')) (by omega) (hp.pl p4);refine⟨(g4.trans i1).mono (by omega) (by omega),fun h=>?_,fun h=>?_⟩
   ·have:s.step.left=s.left-1:=rfl
    omega
   ·unfold LB at l1
    have a1:(s1.enter (AH i)).left=s1.left:=rfl;have a2:(z.2.leave s1.path.length).left=z.2.left:=rfl;rw[a1]at l1;rw[a2]at i2 i3;rcases Int.le_total z.2.left 0 with q|q
    ·have:=i2 q;omega
    ·have:=i3 q;omega
theorem Pv(hE:Ia E)(hpl:Ez obj)(h:JH N obj):∀(m:Nat),SR E obj N m
 |0=>by
  intro c ty ps s hc hp;obtain⟨k,n,t,l⟩:=c;obtain⟨h1,h2,rfl⟩:=hc;rw[Bj];split
  ·exact⟨(Gr.refl s).mono (by omega) (by omega),by show min s.left 0-_<=s.left;omega⟩
  split
  ·exact⟨(Gr.fail s hp).mono (by omega) (by omega),by show min s.left 0-_<=s.left;omega⟩
  split
  ·exact⟨RW h _ (fun x hx=>hE.row _ _ hx) ps s hp,RX h _ (fun x hx=>hE.row _ _ hx) ps s hp⟩
  split
  ·rw[BO]
   exact⟨((Gr.write s [91]).trans (Gr.write _ [93])).mono (by decide) (by omega),by show min s.left 0-_<=s.left;omega⟩
  ·exact⟨(Gr.write s _).mono (XE k n t h1 h2) (by omega),by show min s.left 0-_<=s.left;omega⟩
 |m+1=>by
  intro c ty ps s hc hp;obtain⟨k,n,t,l⟩:=c;obtain⟨h1,h2,h3,h4⟩:=hc;rw[Bj];split
  ·exact⟨(Gr.refl s).mono (by omega) (by omega),by show min s.left 0-_<=s.left;omega⟩
  split
  ·exact⟨(Gr.fail s hp).mono (by omega) (by omega),by show min s.left 0-_<=s.left;omega⟩
  split
  ·refine⟨RW h _ (fun x hx=>hE.row _ _ hx) ps s hp,?_⟩
   have:=RX h (E.row t) (fun x hx=>hE.row _ _ hx) ps s hp;unfold LB at*;omega
  split
  ·obtain⟨i1,i2,i3⟩:=fV hpl (Pv hE hpl h m) l 0 (NI ty) ps 0 (s.write [91]) h4 (by omega) (show PB (s.write [91])from hp)
   refine⟨((Gr.write s [91]).trans i1).mono (by decide) (by omega),?_⟩;unfold LB;have a1:(s.write [91]).left=s.left:=rfl;rw[a1]at i2 i3;rcases Int.le_total s.left 0 with q|q
   ·have:=i2 q;omega
   ·have:=i3 q;omega
  ·exact⟨(Gr.write s _).mono (XE k n t h1 h2) (by omega),by show min s.left 0-_<=s.left;omega⟩
theorem VS.first{m:Nat}{v:PV}{c:RV}(h:VS m c):VS m (KI v c):=by
 obtain⟨k,n,t,l⟩:=c;unfold KI;cases m with
 |zero=>
  obtain⟨h1,h2,rfl⟩:=h;exact⟨h1,h2,by split<;>simp⟩
 |succ m=>
  obtain⟨h1,h2,h3,h4⟩:=h;refine⟨h1,h2,?_,fun c hc=>?_⟩
  ·split
   ·exact h3
   ·rw[List.length_take];omega
  ·split at hc
   ·exact h4 c hc
   ·exact h4 c (List.mem_of_mem_take hc)
theorem Th(hE:Ia E)(id typ:vD):∀x,Kx E id typ=some x->Ei x:=by
 intro x hx;unfold Kx at hx;cases hr:E.row id with
 |none=>rw[hr]at hx;cases hx
 |some r=>
  rw[hr,Option.bind_some]at hx;split at hx
  ·cases hx
  ·cases hx;exact hE.row _ _ hr
theorem Yb(hE:Ia E)(hpl:Ez obj)(h:JH N obj)(r:MR)(hr:Ei r)(d:Al)(f:QF)(s:Aj)(hp:PB s):Gr s (Da E obj r d f s).2 10000 25010050/\LB (N+1603) s (Da E obj r d f s).2:=by
 unfold Da;split
 ·exact⟨(Gr.fail s hp).mono (by omega) (by omega),by show min s.left 0-_<=s.left;omega⟩
 split
 ·refine⟨RW h _ (Th hE _ _) _ s hp,?_⟩
  have:=RX h (Kx E (Dc f.1).2.2 (Sn d.ty)) (Th hE _ _) f.2 s hp;unfold LB at*;omega
 split
 ·exact Pv hE hpl h 1603 _ _ _ s (hr _) hp
 ·exact Pv hE hpl h 1603 _ _ _ s (hr _).first hp
theorem Ub(hE:Ia E)(hpl:Ez obj)(h:JH N obj)(r:MR)(hr:Ei r)(f:QF)(s:Aj)(hp:PB s):Gr s (Cx E obj r f s).2 10000010 50020100/\LB (N+1603) s (Cx E obj r f s).2:=by
 have hL:∀t,LB (N+1603) s (s.write t):=fun t=>by show min s.left 0-_<=s.left;omega
 unfold Cx;split
 ·refine⟨(Gr.write s _).mono ?_ (by omega),hL _⟩
  have h1:=Nt (E.obj r.1).name.data.toList;have h2:(E.obj r.1).name.data.toList.length=(E.obj r.1).name.size:=by simp
  have h3:=hE.on r.1;omega
 split
 ·exact⟨(Gr.write s _).mono (by have:=hE.nm;omega) (by omega),hL _⟩
 split
 ·exact⟨(Gr.write s _).mono (by have:=hE.fl (Dc f.1).2.2;omega) (by omega),hL _⟩
 ·simp only[]
  generalize (En (E.obj r.1).fields f.1.name).getD QJ=d;obtain⟨g1,l1⟩:=Yb hE hpl h r hr d f s hp;have p1:=Sm E hpl r d f s;refine⟨(g1.trans (Gr.settle s.data.length (Da E obj r d f s).1 (CA d.ty) _ (hp.pl p1))).mono (by omega) (by omega),?_⟩;unfold LB at*;rw[LB.settle];exact l1
def YG(l:List QF):Prop:=∀f∈l,f.1.key.size<=4000
theorem UH(f:QF):(AO f).length=f.1.key.size+2:=by unfold AO;simp
theorem PB.write{s:Aj}(h:PB s)(t:List UInt8):PB (s.write t):=h
theorem Wd(hE:Ia E)(hpl:Ez obj)(h:JH N obj)(r:MR)(hr:Ei r){f:QF}(hf:f.1.key.size<=4000){s s1:Aj}(hp:PB s)(e:¬s.step.left<0)(e1:s1.left=s.step.left)(e2:s1.path=s.path)(e3:s1.errs=s.errs)(e4:s1.data.length<=s.data.length+1):PB ((s1.enter (AO f)).write (AO f++[58]))/\Gr s ((Cx E obj r f ((s1.enter (AO f)).write (AO f++[58]))).2.leave s1.path.length) 0 0/\PL s ((Cx E obj r f ((s1.enter (AO f)).write (AO f++[58]))).2.leave s1.path.length)/\ -((N+1603:Nat):Int)<=(Cx E obj r f ((s1.enter (AO f)).write (AO f++[58]))).2.left:=by
 have hk:=UH f;have hp2:PB ((s1.enter (AO f)).write (AO f++[58])):=(hp.step e e1 e2 (by omega)).write _;obtain⟨g1,l1⟩:=Ub hE hpl h r hr f _ hp2;have p1:=Oi E hpl r f ((s1.enter (AO f)).write (AO f++[58]));have g3:=(((Gr.enter s1 (AO f)).trans (Gr.write (s1.enter (AO f)) (AO f++[58]))).trans g1).trans (Gr.left (Cx E obj r f ((s1.enter (AO f)).write (AO f++[58]))).2 s1.path.length);have hkl:(AO f++[58]).length=f.1.key.size+3:=by rw[uE,hk];rfl
 have p3:PL s1 ((Cx E obj r f ((s1.enter (AO f)).write (AO f++[58]))).2.leave s1.path.length):=PL.around ((PL.write _ _).trans p1);have hs:s.step.left=s.left-1:=rfl;refine⟨hp2,g3.paid e e1 e4 e3 (by omega) (by omega),⟨p3.1.trans e2,by have:=p3.2;omega⟩,?_⟩;unfold LB at l1;have a1:((s1.enter (AO f)).write (AO f++[58])).left=s1.left:=rfl;rw[a1]at l1;omega
theorem Qo(i:Nat)(s:Aj):(if 0<i then s.step.write [44]else s.step).left=s.step.left/\(if 0<i then s.step.write [44]else s.step).path=s.path/\(if 0<i then s.step.write [44]else s.step).errs=s.errs/\(if 0<i then s.step.write [44]else s.step).data.length<=s.data.length+1:=by
 split
 ·exact⟨rfl,rfl,rfl,by show(s.data++[44]).length<=_;simp⟩
 ·exact⟨rfl,rfl,rfl,by show s.data.length<=_;omega⟩
theorem lX(hE:Ia E)(hpl:Ez obj)(h:JH N obj)(r:MR)(hr:Ei r):∀(l:List QF) (i how:Nat) (s:Aj),YG l->PB s->Gr s (BX E obj r l i how s).2 1 0/\(s.left<=0->s.left-1<=(BX E obj r l i how s).2.left)/\(0<=s.left-> -((N+1604:Nat):Int)<=(BX E obj r l i how s).2.left):=by
 intro l
 induction l with
 |nil=>
  intro i how s _ _;rw[BX];exact⟨Gr.write s [125],fun h=>by show s.left-1<=s.left;omega,fun h=>by show _<=s.left;omega⟩
 |cons f l ih=>
  intro i how s hf hp;rw[BX];by_cases e:s.step.left<0
  ·rw[uC e]
   have h2:s.step.left=s.left-1:=rfl;refine⟨⟨?_,?_⟩,fun h=>?_,fun h=>?_⟩
   ·show s.data.length+20000000*s.step.left.toNat<=_
    omega
   ·show s.errs.length+60000000*s.step.left.toNat<=_
    omega
   ·show s.left-1<=s.step.left
    omega
   ·show _<=s.step.left
    omega
  ·rw[uB e]
   have h1:=Qo i s;generalize (if 0<i then s.step.write [44]else s.step)=s1 at*;obtain⟨e1,e2,e3,e4⟩:=h1;simp only[];obtain⟨-,g4,p4,l4⟩:=Wd hE hpl h r hr (hf f uX) hp e e1 e2 e3 e4;generalize Cx E obj r f ((s1.enter (AO f)).write (AO f++[58]))=z at*;obtain⟨i1,i2,i3⟩:=ih (i+1) (if z.1=true then how else 2) (z.2.leave s1.path.length) (fun c' hc'=>hf c' (uW _ hc')) (hp.pl p4);have hs:s.step.left=s.left-1:=rfl;refine⟨(g4.trans i1).mono (by omega) (by omega),fun h=>by omega,fun h=>?_⟩;have a2:(z.2.leave s1.path.length).left=z.2.left:=rfl;rw[a2]at i2 i3;rcases Int.le_total z.2.left 0 with q|q
   ·have:=i2 q;omega
   ·have:=i3 q;omega
end
theorem Jz{E:AJ}(hE:Ia E):∀f,JH (1604*f) (AR E f)
 |0=>⟨fun r ps s _ _=>(Gr.refl s).mono (by omega) (by omega),fun r ps s _ _=>by show min s.left 0-_<=s.left;omega⟩
 |f+1=>by
  have hL:=fun(r:MR) (ps:List Nat) (s:Aj) (hr:Ei r)=>lX hE (GK E f) (Jz hE f) r hr (Dt E.parts (AU (E.obj r.1) E.uns) ps) 0 0 (s.write [123]) (fun g hg=>hE.key _ _ g hg);refine⟨fun r ps s hr hp=>?_,fun r ps s hr hp=>?_⟩
  ·rw[AR]
   exact((Gr.write s [123]).trans (hL r ps s hr hp).1).mono (by decide) (by omega)
  ·rw[AR]
   obtain⟨-,i2,i3⟩:=hL r ps s hr hp;unfold LB;have a1:(s.write [123]).left=s.left:=rfl;rw[a1]at i2 i3;rcases Int.le_total s.left 0 with q|q
   ·have:=i2 q;omega
   ·have:=i3 q;omega
def DL(n:Nat)(s:Aj):Prop:=n<=s.data.length
theorem DL.write{n:Nat}{s:Aj}(h:DL n s)(t:List UInt8):DL n (s.write t):=by
 show n<=(s.data++t).length;unfold DL at h;rw[uE];omega
theorem DL.settle{n k how:Nat}{st:Bool}{s:Aj}(h:DL n s)(hk:n<=k):DL n (BE k how st s).2:=by
 have hc:DL n (s.cutNull k):=by
  show n<=(s.data.take k++Hy).length;unfold DL at h;rw[uE,List.length_take];omega
 unfold BE;split
 ·exact h
 ·show DL n (if how=1/\st=true then(s.cutNull k).fail else s.cutNull k)
  split
  ·exact hc
  ·exact hc
def Kq(obj:BW):Prop:=∀r ps s n,DL n s->DL n (obj r ps s).2
theorem Xn{obj:BW}(h:Kq obj)(r:Option MR)(ps:List Nat)(s:Aj)(n:Nat)(hs:DL n s):DL n (Fb obj r ps s).2:=by
 unfold Fb;cases r with
 |none=>exact hs
 |some r=>exact h r ps s n hs
mutual
theorem Pu(E:AJ){obj:BW}(h:Kq obj):∀(c:RV) (ty:Bo) (ps:List Nat) (s:Aj) (n:Nat),DL n s->DL n (Bj E obj c ty ps s).2
 | .mk k m t l,ty,ps,s,n,hs=>by
   rw[Bj];split
   ·exact hs
   split
   ·exact hs
   split
   ·exact Xn h _ _ _ n hs
   split
   ·exact Uz E h l 0 (NI ty) ps 0 (s.write [91]) n (hs.write _)
   ·exact hs.write _
theorem Uz(E:AJ){obj:BW}(h:Kq obj):∀(l:List RV) (i:Nat) (ty:Bo) (ps:List Nat) (how:Nat) (s:Aj) (n:Nat),DL n s->DL n (BO E obj l i ty ps how s).2
 |[],i,ty,ps,how,s,n,hs=>by rw[BO];exact hs.write _
 |c::l,i,ty,ps,how,s,n,hs=>by
  rw[BO];split
  ·exact hs
  ·have h1:DL n (if 0<i then s.step.write [44]else s.step):=by
    split
    ·exact DL.write (s:=s.step) hs _
    ·exact hs
   generalize (if 0<i then s.step.write [44]else s.step)=s1 at*;have h2:=Pu E h c ty ps (s1.enter (AH i)) n h1;exact Uz E h l (i+1) ty ps _ _ n (h2.settle h1)
end
theorem Ya(E:AJ){obj:BW}(h:Kq obj)(r:MR)(d:Al)(f:QF)(s:Aj)(n:Nat)(hs:DL n s):DL n (Da E obj r d f s).2:=by
 unfold Da;split
 ·exact hs
 split
 ·exact Xn h _ _ _ n hs
 split
 ·exact Pu E h _ _ _ _ n hs
 ·exact Pu E h _ _ _ _ n hs
theorem Ua(E:AJ){obj:BW}(h:Kq obj)(r:MR)(f:QF)(s:Aj)(n:Nat)(hs:DL n s):DL n (Cx E obj r f s).2:=by
 unfold Cx;split
 ·exact hs.write _
 split
 ·exact hs.write _
 split
 ·exact hs.write _
 ·exact(Ya E h r _ f s n hs).settle hs
theorem Rv(E:AJ){obj:BW}(h:Kq obj)(r:MR):∀(l:List QF) (i how:Nat) (s:Aj) (n:Nat),DL n s->DL n (BX E obj r l i how s).2
 |[],i,how,s,n,hs=>by rw[BX];exact hs.write _
 |f::l,i,how,s,n,hs=>by
  rw[BX];split
  ·exact hs
  ·have h1:DL n (if 0<i then s.step.write [44]else s.step):=by
    split
    ·exact DL.write (s:=s.step) hs _
    ·exact hs
   generalize (if 0<i then s.step.write [44]else s.step)=s1 at*;exact Rv E h r l (i+1) _ _ n (Ua E h r f _ n (DL.write (s:=s1.enter (AO f)) h1 _))
theorem Nn(E:AJ):∀f,Kq (AR E f)
 |0,_,_,s,n,hs=>hs
 |f+1,r,ps,s,n,hs=>by rw[AR];exact Rv E (Nn E f) r _ 0 0 (s.write [123]) n (hs.write _)
structure RB(k j:Nat)(s:Aj):Prop where
 d:s.data.length+20000000*s.left.toNat<=50000000000000+k
 e:s.errs.length+60000000*s.left.toNat<=50000000000000+j
 p:PB s
 l: -100000000<=s.left
 h:s.left<=5000
theorem RB.room{k j:Nat}{s:Aj}(h:RB k j s)(hk:k<=1000000000000)(hj:j<=1000000000000):Ej s:=by
 have h1:=h.d;have h2:=h.e;have h3:=h.p;unfold PB at h3;exact⟨by omega,by omega,by omega,by have:=h.l;omega,by have:=h.h;omega⟩
theorem RB.len{k j:Nat}{s:Aj}(h:RB k j s)(hk:k<=1000000000000):s.data.length<=60000000000000:=by have h1:=h.d;omega
theorem RB.gr{k j c e:Nat}{s s':Aj}(h:RB k j s)(g:Gr s s' c e)(p:PL s s')(hl: -100000000<=s'.left):RB (k+c) (j+e) s':=⟨by have:=h.d;have:=g.d;omega,by have:=h.e;have:=g.e;omega,h.p.pl p,hl,by have:=h.h;have:=p.2;omega⟩
theorem RB.write{k j:Nat}{s:Aj}(h:RB k j s)(t:List UInt8):RB (k+t.length) j (s.write t):=h.gr (Gr.write s t) (PL.write s t) h.l
theorem RB.paid{k j:Nat}{s s1 s2:Aj}(h:RB k j s)(hk:k<=10000000)(hj:j<=50000000)(h0:¬s.step.left<0)(e1:s1.left=s.step.left)(e2:s1.path=s.path)(e3:s1.errs=s.errs)(e4:s1.data.length<=s.data.length+1)(t u:List UInt8)(ht:t.length<=4900)(hu:u.length<=9000000)(hs2:s2=(s1.enter t).write u):RB 0 0 s2:=by
 have h2:s.step.left=s.left-1:=rfl;have hp:PB (s1.enter t):=h.p.step h0 e1 e2 ht;subst hs2;have hd:=h.d;have he:=h.e;have hh:=h.h;refine⟨?_,?_,hp,?_,?_⟩
 ·show(s1.data++u).length+20000000*s1.left.toNat<=_
  rw[uE,e1];omega
 ·show s1.errs.length+60000000*s1.left.toNat<=_
  rw[e3,e1];omega
 ·show _<=s1.left
  rw[e1];omega
 ·show s1.left<=_
  rw[e1];omega
theorem TR(s:Aj)(t:List UInt8)(h:t≠[]):(s.enter t).path≠[]:=by
 show Cj s.path++t≠[];intro e;exact h (List.append_eq_nil_iff.1 e).2
theorem Qp{n:Nat}{s:Aj}(h:DL n s)(hn:0<n):s.data≠[]:=fun e=>by unfold DL at h;rw[e]at h;simp at h;omega
theorem VY:∀(l:List UInt8) (n:Int),Ba l n<=10^l.length*(n.natAbs+23)/\ -(10^l.length*(n.natAbs+23))<=Ba l n
 |[],n=>by rw[Ba];simp;omega
 |c::l,n=>by
  rw[Ba];have h:=VY l (10*n+((c.toNat:Int)-48));have hc:c.toNat<256:=c.toNat_lt;have h1:(10*n+((c.toNat:Int)-48)).natAbs+23<=10*(n.natAbs+23):=by omega
  have h2:(10:Int)^l.length*((10*n+((c.toNat:Int)-48)).natAbs+23)<=10^(c::l).length*(n.natAbs+23):=by
   rw[uQ,Int.pow_succ,Int.mul_assoc];refine Int.mul_le_mul_of_nonneg_left (by omega) (Int.pow_nonneg (by omega))
  omega
theorem VX{l:List UInt8}(h:l.length<=9):Bx (Ba l 0)/\Bx (-Ba l 0):=by
 have h1:=VY l 0;have h2:(10:Int)^l.length<=10^9:=by exact_mod_cast Nat.pow_le_pow_right (by omega) h
 have h3:(10:Int)^l.length*((0:Int).natAbs+23)<=10^9*23:=by
  refine Int.mul_le_mul h2 (by simp) (by simp) (by omega)
 unfold Bx;omega
theorem lJ{l:List UInt8}{x:Int×Nat}(h:BK l=some x):Bx x.1:=by
 unfold BK at h;dsimp only at h;generalize (if l.head?=some 45 then 1 else 0:Nat)=sg at h;generalize Av (l.drop sg) AP=k at h;by_cases hc:k<1\/9<k\/0<Av (l.drop (sg+k)) Dw\/(1<k/\(l.drop sg).head?=some 48)
 ·rw[uC hc]at h;cases h
 ·rw[uB hc]at h
  have e:=tY h;subst e;simp only[not_or]at hc;have hl:((l.drop sg).take k).length<=9:=by rw[List.length_take];omega
  show Bx (if sg=1 then _ else _);split
  ·exact(VX hl).2
  ·exact(VX hl).1
theorem Bx.z:Bx 0:=⟨by omega,by omega⟩
theorem hJ{l:List UInt8}{x:Tk×Nat}(h:Br l=some x):Bx x.1.n:=by
 unfold Br at h;split at h
 ·cases h
 ·split at h
  ·cases h;exact Bx.z
  split at h
  ·obtain⟨y,hy,rfl⟩:=uY.1 h
   exact lJ hy
  split at h
  ·obtain⟨y,hy,rfl⟩:=uY.1 h
   exact Bx.z
  split at h
  ·cases h;exact Bx.z
  ·obtain⟨y,hy,rfl⟩:=uY.1 h
   exact Bx.z
theorem iH:∀(f:Nat) (l:List UInt8) (ts:List Tk),Fs f l=some ts->∀t∈ts,Bx t.n:=by
 intro f
 induction f with
 |zero=>intro l ts h;cases h
 |succ f ih=>
  intro l ts h
  match l with
  |[]=>cases h;intro t ht;cases ht
  |c::r=>
   simp only[Fs]at h;split at h
   ·exact ih r ts h
   split at h
   ·exact ih _ ts h
   ·cases hx:Br (c::r)with
    |none=>rw[hx]at h;cases h
    |some x=>
     rw[hx]at h;simp only at h;obtain⟨ts',hy,rfl⟩:=uY.1 h;intro t ht;rcases vB.1 ht with e|e
     ·rw[e];exact hJ hx
     ·exact ih _ ts' hy t e
def TN(s:St):Prop:=∀t∈s.getD [],Bx t.n
theorem TN.cut(x:vD):TN (Af x):=fun t ht=>by
 cases h:Af x with
 |none=>rw[h]at ht;simp at ht
 |some ts=>
  rw[h]at ht;unfold Af at h;split at h
  ·cases h
  ·split at h
   ·cases h
   ·rename_i l hl
    split at h
    ·cases h;exact iH _ _ _ hl t ht
    ·cases h
theorem TN.none:TN none:=fun t ht=>by simp at ht
theorem TN.tl{s:St}(h:TN s):TN (tl s):=by
 match s with
 | .none=>exact h
 |some []=>exact h
 |some (t::l)=>exact fun u hu=>h u (uW _ hu)
theorem TN.hd{s:St}(h:TN s):Bx (hd s).n:=by
 match s with
 | .none=>exact Bx.z
 |some []=>exact Bx.z
 |some (t::l)=>exact h t uX
theorem TN.must{s:St}(h:TN s)(b:Bool):TN (mustT s b):=by
 cases b
 ·exact TN.none
 ·exact h.tl
theorem TN.tx{s:St}(h:TN s):TN (IZ s):=by
 unfold IZ;split
 ·exact h.tl
 ·exact TN.none
theorem TN.lit{s:St}(h:TN s):Bx (Gq s).n:=by
 unfold Gq;split
 ·exact h.hd
 split
 ·exact Bx.z
 split
 ·exact⟨by show(-9223372036854775808:Int)<=1;omega,by show(1:Int)<=9223372036854775807;omega⟩
 split
 ·exact Bx.z
 ·exact Bx.z
def NV:Nat->RV->Prop
 |0,.mk _ n _ _=>Bx n
 |k+1,.mk _ n _ l=>Bx n/\∀c∈l,NV k c
theorem NV.up:∀(k:Nat) (r:RV),Fa k r->NV k r->NV (k+1) r
 |0,.mk sh n s l,h,k=>⟨k,fun c hc=>by rw[h.2.2]at hc;cases hc⟩
 |m+1,.mk sh n s l,h,k=>⟨k.1,fun c hc=>NV.up m c (h.2.2.2 c hc) (k.2 c hc)⟩
theorem SK:∀(f:Nat),(∀(d:Nat) (s:St),Ew s->ln s<=801->TN s->NV f (Bg f d s).1/\TN (Bg f d s).2)/\∀(d:Nat) (s:St),Ew s->ln s<=801->TN s->(∀r∈(Bm f d s).1,NV f r)/\TN (Bm f d s).2
 |0=>⟨fun d s _ _ h=>by rw[Bg];exact⟨Bx.z,h⟩,fun d s _ _ h=>by rw[Bm];exact⟨fun r hr=>by simp at hr,h⟩⟩
 |f+1=>by
  obtain⟨ih1,ih2⟩:=SK f;refine⟨fun d s hw hl h=>?_,fun d s hw hl h=>?_⟩
  ·rw[Bg]
   split
   ·exact⟨⟨h.lit,fun c hc=>by cases hc⟩,h.tl⟩
   split
   ·exact⟨⟨Bx.z,fun c hc=>by cases hc⟩,h.tl⟩
   split
   ·exact⟨⟨Bx.z,fun c hc=>by cases hc⟩,h.tl.tx⟩
   ·have hs:Ew (if 10<=d then none else mustT s (Ad s 12)):=by split;exact Mn;exact Yp hw _
    have hn:ln (if 10<=d then none else mustT s (Ad s 12))<=ln s:=by split;exact tU _;exact Do _ _
    have ht:TN (if 10<=d then none else mustT s (Ad s 12)):=by split;exact TN.none;exact h.must _
    obtain⟨a,b⟩:=ih2 d _ hs (tQ hn hl) ht;exact⟨⟨Bx.z,a⟩,b⟩
  ·rw[Bm]
   split
   ·exact⟨fun r hr=>by simp at hr,h⟩
   split
   ·exact⟨fun r hr=>by simp at hr,h.tl⟩
   ·obtain⟨a,b⟩:=ih1 (d+1) s hw hl h
    obtain⟨k1,k2⟩:=(OW f).1 (d+1) s hw hl;have hln:=(Rg f).1 (d+1) s;obtain⟨a2,b2⟩:=ih2 d _ k2 (tQ hln hl) b;refine⟨fun r hr=>?_,b2⟩;rcases vB.1 hr with e|e
    ·rw[e];exact NV.up _ _ k1 a
    ·exact NV.up _ _ (((OW f).2 d _ k2 (tQ hln hl)).2.1 r e) (a2 r e)
theorem YJ(x:vD):NV 1603 (Dk x):=by
 have hw:Ew (Af x)/\ln (Af x)<=801:=by
  cases h:Af x with
  |none=>exact⟨Mn,tU _⟩
  |some ts=>have:=MO x ts h;exact⟨this.1,by show ts.length+1<=801;omega⟩
 exact((SK 1603).1 0 (Af x) hw.1 hw.2 (TN.cut x)).1
theorem UK(sh:Nat)(n:Int)(s:vD)(hs:s.size<=4000)(hn:Bx n):(Cy (sh,n,s)).2.2.size<=4000/\Bx (Cy (sh,n,s)).2.1:=by
 unfold Cy;simp only[];split
 ·split
  ·exact⟨tU _,Bx.z⟩
  ·exact⟨tU _,Bx.z⟩
 split
 ·exact⟨hs,hn⟩
 split
 ·exact⟨hs,hn⟩
 split
 ·exact⟨hs,hn⟩
 ·exact⟨hs,hn⟩
theorem SP:∀(k:Nat) (r:RV),Fa k r->NV k r->VS k (pv r)
 |0,.mk sh n s l,h,k=>by
  rw[pv,KY];have q:=UK sh n s h.2.1 k;exact⟨q.1,q.2,by rw[h.2.2];rfl⟩
 |m+1,.mk sh n s l,h,k=>by
  rw[pv,KY];have q:=UK sh n s h.2.1 k.1;refine⟨q.1,q.2,by rw[uP];have:=h.2.2.1;omega,fun c hc=>?_⟩;obtain⟨c0,hc0,rfl⟩:=List.mem_map.1 hc;exact SP m c0 (h.2.2.2 c0 hc0) (k.2 c0 hc0)
theorem YL(x:vD):VS 1603 (pv (Dk x)):=SP _ _ (Rx x) (YJ x)
theorem SO:VS 1603 Ru:=⟨by decide,Bx.z,by simp,fun c hc=>by cases hc⟩
def VZ(l:AL):Prop:=∀t v,BF l t=some v->v.2.2.size<=4000
theorem VZ.nil:VZ []:=fun t v h=>by cases h
theorem VZ.cons{l:AL}{n:vD}{v:PV}(h:VZ l)(hv:v.2.2.size<=4000):VZ ((n,v)::l):=fun t u hu=>by
 rw[BF]at hu;split at hu
 ·cases hu;exact hv
 ·exact h t u hu
theorem Yh:∀(f:Nat) {l:AL} {s:St},VZ l->TB s->VZ (FD f l s).1
 |0,l,s,h,_=>h
 |f+1,l,s,h,hs=>by
  rw[FD];split
  ·have h0:TB (JD l s):=by
    unfold JD;split
    ·exact TB.none
    ·exact hs.nK 3
   exact Yh f (h.cons (h0.nK 9).valK.1) (h0.nK 9).pVal
  ·exact h
theorem sS(x:vD):VZ (FZ (Af x)).1:=by
 unfold FZ;split
 ·exact VZ.nil
 ·exact Yh 801 VZ.nil ((TB.cut x).nK 14)
theorem Xc{s:St}(h:TB s):(CP s).1.dflt.2.2.size<=4000:=by
 unfold CP;simp only[];have h1:=h.nK 6;have h2:=(h1.nmT).nK 9;have h4:=(h2.nmT).mayT (Ad (nmT (nK (nmT (nK s 6)) 9)) 5);have h5:=h4.mayT (Ad (mayT (nmT (nK (nmT (nK s 6)) 9)) (Ad (nmT (nK (nmT (nK s 6)) 9)) 5)) 10);split
 ·exact h5.valK.1
 ·exact tU _
theorem Xd:∀(f:Nat) {s:St},TB s->∀x∈(CZ f s).1,x.dflt.2.2.size<=4000
 |0,s,h=>fun a ha=>by simp[CZ]at ha
 |f+1,s,h=>by
  rw[CZ];split
  ·intro a ha
   rcases vB.1 ha with e|e
   ·rw[e];exact Xc h
   ·exact Xd f (Pf h).2.2 a e
  ·intro a ha
   simp at ha
theorem mH{s:St}(h:TB s):∀x∈(Gu s).1,x.dflt.2.2.size<=4000:=by
 unfold Gu;split
 ·intro a ha
  rcases vB.1 ha with e|e
  ·rw[e];exact Xc h.tl
  ·exact Xd 801 (Pf h.tl).2.2 a e
 ·intro a ha
  simp at ha
def OD(Q:Qy):Prop:=∀o∈Q.ops,∀x∈o.1,x.dflt.2.2.size<=4000
theorem WO{q:Qy}{s:St}(hq:OD q)(h:TB s):OD (Cd q s).1:=by
 unfold Cd;split
 ·intro o ho
  rcases uZ.1 ho with e|e
  ·exact hq o e
  ·rw[List.mem_singleton]at e;rw[e];intro x hx;simp at hx
 split
 ·rw[Mc]
  intro o ho;rcases uZ.1 ho with e|e
  ·exact hq o e
  ·rw[List.mem_singleton]at e;rw[e];exact mH (h.tl.mayT (Ad (tl s) 1))
 split
 ·exact hq
 ·exact hq
theorem WR:∀(f:Nat) {q:Qy} {s:St},QZ q->OD q->TB s->OD (FA f q s).1
 |0,q,s,_,hq,h=>hq
 |f+1,q,s,hz,hq,h=>by
  rw[FA];split
  ·exact hq
  ·have h1:=Ma hz h
   exact WR f h1.1 (WO hq h) h1.2
theorem oR(x:vD):OD (BD (Af x)).1:=by
 have hz:QZ ⟨[],[],[]⟩:=⟨PZ.nil,fun x hx=>by simp at hx,fun x hx=>by simp at hx⟩;have h1:=Ma (q:=⟨[],[],[]⟩) hz (TB.cut x);exact WR 801 h1.1 (WO (fun o ho=>by cases ho) (TB.cut x)) h1.2
theorem Tp{given:AL}(hg:VZ given):∀(vs:List DS) (acc l:AL),(∀x∈vs,x.dflt.2.2.size<=4000)->VZ acc->Fl given vs acc=some l->VZ l
 |[],acc,l,_,ha,h=>by cases h;exact ha
 |x::r,acc,l,hx,ha,h=>by
  rw[Fl]at h;split at h
  ·cases h
  split at h
  ·cases h
  split at h
  ·cases h
  ·refine Tp hg r _ l (fun y hy=>hx y (uW _ hy)) (ha.cons ?_) h
   unfold Ga;cases hl:BF given x.name with
   |none=>exact hx x uX
   |some v=>exact hg _ v hl
theorem Zz{Q:Qy}{l:AL}(h:QZ Q)(hl:VZ l):∀P∈(Ds l Q).parts,∀x∈P.sels,x.key.size<=4000/\∀a∈x.args,a.2.2.2.size<=4000:=by
 intro P hP x hx;obtain⟨P0,hP0,rfl⟩:=List.mem_map.1 (show P∈Q.parts.map _ from hP);obtain⟨x0,hx0,rfl⟩:=List.mem_map.1 (show x∈P0.sels.map (Ii l)from hx);have z:=h.p P0 hP0 x0 hx0;refine⟨z.k,fun a ha=>?_⟩;obtain⟨a0,ha0,rfl⟩:=List.mem_map.1 (show a∈x0.args.map (MJ l)from ha);have hz:=z.a a0 ha0;show(CV l a0.2).2.2.size<=4000;unfold CV;split
 ·cases hv:BF l a0.2.2.2 with
  |none=>exact hz
  |some v=>exact hl _ v hv
 ·exact hz
end Go.Proofs.YtadneapobijejaaGreatDoor
