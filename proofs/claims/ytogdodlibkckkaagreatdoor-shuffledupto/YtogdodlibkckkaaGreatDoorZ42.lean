import Derived.Test.YtogdodlibkckkaaGreatDoorZ34
import Derived.Lib.ItoaLen
namespace Go.Proofs.YtogdodlibkckkaaGreatDoor
set_option maxHeartbeats 20000000
set_option maxRecDepth 100000
open Go.RowKit Tryz
structure Gr(s s':Aj)(c e:Nat):Prop where
 d:s'.data.length+20000000*s'.left.toNat<=s.data.length+20000000*s.left.toNat+c
 e:s'.errs.length+60000000*s'.left.toNat<=s.errs.length+60000000*s.left.toNat+e
def PB(s:Aj):Prop:=s.path.length+5000*s.left.toNat<=25010000
def LB(N:Nat)(s a:Aj):Prop:=min s.left 0-N<=a.left
theorem Gr.refl(s:Aj):Gr s s 0 0:=⟨wQ _,wQ _⟩
theorem Gr.mono{s f:Aj}{c e c' a:Nat}(b:Gr s f c e)(g:c<=c')(h:e<=a):Gr s f c' a:=⟨by have:=b.d;omega,by have:=b.e;omega⟩
theorem Gr.trans{a b d:Aj}{c e c' f:Nat}(g:Gr a b c e)(k:Gr b d c' f):Gr a d (c+c') (e+f):=⟨by have:=g.d;have:=k.d;omega,by have:=g.e;have:=k.e;omega⟩
theorem Gr.write(s:Aj)(t:List UInt8):Gr s (s.write t) t.length 0:=⟨by show(s.data++t).length+20000000*s.left.toNat<=_;rw[xJ];omega,wQ _⟩
theorem Gr.left(s:Aj)(n:Nat):Gr s (s.leave n) 0 0:=⟨wQ _,wQ _⟩
theorem Gr.enter(s:Aj)(t:List UInt8):Gr s (s.enter t) 0 0:=⟨wQ _,wQ _⟩
theorem YO(l:List UInt8):(Cf l).length<=l.length+1:=by
 unfold Cf;split
 ·simp
 ·simp
theorem Gr.fail(s:Aj)(a:PB s):Gr s s.fail 0 25010050:=⟨wQ _,by
 show(Cf s.errs++Gs++s.path++IX).length+60000000*s.left.toNat<=_;have b:=YO s.errs;have c:Gs.length=35:=rfl;have d:IX.length=2:=rfl;unfold PB at a;simp only[xJ];omega⟩
theorem PB.pl{s a:Aj}(b:PB s)(k:PL s a):PB a:=by
 unfold PB at*;rw[k.1];have:=k.2;omega
theorem Gr.cut(s:Aj)(n:Nat):Gr s (s.cutNull n) 4 0:=⟨by
 show(s.data.take n++FR).length+20000000*s.left.toNat<=_;rw[xJ,List.length_take,show FR.length=4 from rfl];omega,wQ _⟩
theorem Gr.settle(n a:Nat)(st:Bool)(s:Aj)(b:PB s):Gr s (Cg n a st s).2 4 25010050:=by
 unfold Cg;split
 ·exact(Gr.refl s).mono (by omega) (by omega)
 ·show Gr s (if a=1/\st=true then(s.cutNull n).fail else s.cutNull n) _ _
  split
  ·exact((Gr.cut s n).trans (Gr.fail (s.cutNull n) b)).mono (by omega) (by omega)
  ·exact(Gr.cut s n).mono (by omega) (by omega)
theorem LB.settle(n a:Nat)(st:Bool)(s:Aj):(Cg n a st s).2.left=s.left:=by
 unfold Cg;split
 ·rfl
 ·show(if a=1/\st=true then(s.cutNull n).fail else s.cutNull n).left=_
  split<;>rfl
def BE(n:Int):Prop:= -9223372036854775808<=n/\n<=9223372036854775807
theorem BE.len{n:Int}(a:BE n):(AH n).length<=100:=by
 have:=Go.Lib.itoa_length_le n a.1 a.2;unfold AH;omega
def VS:Nat->RV->Prop
 |0,.mk _ n t l=>t.size<=4000/\BE n/\l=[]
 |m+1,.mk _ n t l=>t.size<=4000/\BE n/\l.length<=1000/\∀c∈l,VS m c
theorem YL(k:Nat)(n:Int)(t:yF)(b:t.size<=4000)(a:BE n):(Kw k n t).length<=10000:=by
 have c:=a.len;unfold Kw;have:=Qc t.data.toList;have d:t.data.toList.length=t.size:=by simp
 split
 ·omega
 split
 ·omega
 split
 ·decide
 split<;>simp[Ol]
structure Ip(E:AM):Prop where
 nm:(GE E.names).length<=10000000
 fl:∀t,(JC E t).length<=10000000
 on:∀k,(E.obj k).name.size<=4000
 key:∀of ps,∀f∈DG E.parts of ps,f.1.key.size<=4000
 row:∀id r,E.row id=some r->∀n,VS 1603 (EM r n)
def Et(r:MR):Prop:=∀n,VS 1603 (EM r n)
structure JT(N:Nat)(obj:Cd):Prop where
 g:∀r ps s,Et r->PB s->Gr s (obj r ps s).2 2 0
 l:∀r ps s,Et r->PB s->LB N s (obj r ps s).2
section
variable {E:AM} {obj:Cd} {N:Nat}
theorem SI(c:JT N obj)(r:Option MR)(d:∀x,r=some x->Et x)(b:List Nat)(s:Aj)(a:PB s):Gr s (GH obj r b s).2 10000 25010050:=by
 cases r with
 |none=>exact(Gr.fail s a).mono (by omega) (by omega)
 |some r=>exact(c.g r b s (d r rfl) a).mono (by omega) (by omega)
theorem SJ(b:JT N obj)(r:Option MR)(d:∀x,r=some x->Et x)(a:List Nat)(s:Aj)(c:PB s):LB N s (GH obj r a s).2:=by
 cases r with
 |none=>show min s.left 0-N<=s.left;omega
 |some r=>exact b.l r a s (d r rfl) c
theorem PB.step{s s1:Aj}{t:List UInt8}(c:PB s)(d:¬s.step.left<0)(a:s1.left=s.step.left)(b:s1.path=s.path)(g:t.length<=4900):PB (s1.enter t):=by
 unfold PB at*;show(Cf s1.path++t).length+5000*s1.left.toNat<=_;rw[xJ,a,b];have e:=YO s.path;have f:s.step.left=s.left-1:=rfl;omega
theorem Gr.paid{s s1:Aj}(j:¬s.step.left<0)(g:s1.left=s.step.left)(hd:s1.data.length<=s.data.length+1)(i:s1.errs=s.errs){f:Aj}{c e:Nat}(a:Gr s1 f c e)(l:c+1<=20000000)(m:e<=60000000):Gr s f 0 0:=by
 have k:s.step.left=s.left-1:=rfl;have h:=a.d;have b:=a.e;rw[i]at b;rw[g]at h b;exact⟨by omega,by omega⟩
theorem RL{i:Nat}(a:i<=100000):(AH i).length<=100:=BE.len ⟨by omega,by omega⟩
def TI(E:AM)(obj:Cd)(N m:Nat):Prop:=∀(c:RV) (b:Bv) (a:List Nat) (s:Aj),VS m c->PB s->Gr s (BR E obj c b a s).2 10000 25010050/\LB (N+m) s (BR E obj c b a s).2
def ZG(E:AM)(obj:Cd)(N m:Nat):Prop:=∀(l:List RV) (i:Nat) (d:Bv) (b:List Nat) (a:Nat) (s:Aj),(∀c∈l,VS m c)->i+l.length<=100000->PB s->Gr s (Cp E obj l i d b a s).2 1 0/\(s.left<=0->s.left-1<=(Cp E obj l i d b a s).2.left)/\(0<=s.left-> -((N+m+1:Nat):Int)<=(Cp E obj l i d b a s).2.left)
theorem jV(I:EK obj){m:Nat}(J:TI E obj N m):ZG E obj N m:=by
 intro l
 induction l with
 |nil=>
  intro i a b j s _ _ _;rw[Cp];exact⟨Gr.write s [93],fun d=>by show s.left-1<=s.left;omega,fun d=>by show _<=s.left;omega⟩
 |cons c l L=>
  intro i a b j s h H k;rw[xU]at H;rw[Cp];by_cases e:s.step.left<0
  ·rw[xH e]
   have M:s.step.left=s.left-1:=rfl;refine⟨⟨?_,?_⟩,fun d=>?_,fun d=>?_⟩
   ·show s.data.length+20000000*s.step.left.toNat<=_
    omega
   ·show s.errs.length+60000000*s.step.left.toNat<=_
    omega
   ·show s.left-1<=s.step.left
    omega
   ·show _<=s.step.left
    omega
  ·rw[xG e]
   have F:(if 0<i then s.step.write [44]else s.step).left=s.step.left/\(if 0<i then s.step.write [44]else s.step).path=s.path/\(if 0<i then s.step.write [44]else s.step).errs=s.errs/\(if 0<i then s.step.write [44]else s.step).data.length<=s.data.length+1:=by
    split
    ·exact⟨rfl,rfl,rfl,by show(s.data++[44]).length<=_;simp⟩
    ·exact⟨rfl,rfl,rfl,by show s.data.length<=_;omega⟩
   generalize (if 0<i then s.step.write [44]else s.step)=s1 at*;obtain⟨f,g,x,y⟩:=F;simp only[];have n:PB (s1.enter (AH i)):=k.step e f g (by have:=RL (i:=i) (by omega);omega);obtain⟨A,t⟩:=J c a b (s1.enter (AH i)) (h c yB) n;have u:=ME E I c a b (s1.enter (AH i));have B:=Gr.settle (s1.enter (AH i)).data.length (BR E obj c a b (s1.enter (AH i))).1 (Dk a) _ (n.pl u);have p2:=PL.settle (s1.enter (AH i)).data.length (BR E obj c a b (s1.enter (AH i))).1 (Dk a) (BR E obj c a b (s1.enter (AH i))).2;have O:=LB.settle (s1.enter (AH i)).data.length (BR E obj c a b (s1.enter (AH i))).1 (Dk a) (BR E obj c a b (s1.enter (AH i))).2;generalize Cg (s1.enter (AH i)).data.length (BR E obj c a b (s1.enter (AH i))).1 (Dk a) (BR E obj c a b (s1.enter (AH i))).2=z at*;have C:Gr s1 (z.2.leave s1.path.length) 10004 50020100:=((((Gr.enter s1 (AH i)).trans A).trans B).trans (Gr.left z.2 s1.path.length)).mono (by omega) (by omega);have D:Gr s (z.2.leave s1.path.length) 0 0:=C.paid e f y x (by omega) (by omega);have p3:PL s1 (z.2.leave s1.path.length):=PL.around (u.trans p2);have p4:PL s (z.2.leave s1.path.length):=⟨p3.1.trans g,by have:=p3.2;have:s.step.left=s.left-1:=rfl;omega⟩;obtain⟨K,p,r⟩:=L (i+1) a b (if z.1=true then j else 2) (z.2.leave s1.path.length) (fun c' G=>h c' (yA _ G)) (by omega) (k.pl p4);refine⟨(D.trans K).mono (by omega) (by omega),fun d=>?_,fun d=>?_⟩
   ·have:s.step.left=s.left-1:=rfl
    omega
   ·unfold LB at t
    have v:(s1.enter (AH i)).left=s1.left:=rfl;have w:(z.2.leave s1.path.length).left=z.2.left:=rfl;rw[v]at t;rw[w]at p r;rcases Int.le_total z.2.left 0 with q|q
    ·have:=p q;omega
    ·have:=r q;omega
theorem Qn(f:Ip E)(j:EK obj)(e:JT N obj):∀(m:Nat),TI E obj N m
 |0=>by
  intro c u d s i a;obtain⟨k,n,t,l⟩:=c;obtain⟨g,h,rfl⟩:=i;rw[BR];split
  ·exact⟨(Gr.refl s).mono (by omega) (by omega),by show min s.left 0-_<=s.left;omega⟩
  split
  ·exact⟨(Gr.fail s a).mono (by omega) (by omega),by show min s.left 0-_<=s.left;omega⟩
  split
  ·exact⟨SI e _ (fun x b=>f.row _ _ b) d s a,SJ e _ (fun x b=>f.row _ _ b) d s a⟩
  split
  ·rw[Cp]
   exact⟨((Gr.write s [91]).trans (Gr.write _ [93])).mono (by decide) (by omega),by show min s.left 0-_<=s.left;omega⟩
  ·exact⟨(Gr.write s _).mono (YL k n t g h) (by omega),by show min s.left 0-_<=s.left;omega⟩
 |m+1=>by
  intro c u d s i a;obtain⟨k,n,t,l⟩:=c;obtain⟨g,h,z,w⟩:=i;rw[BR];split
  ·exact⟨(Gr.refl s).mono (by omega) (by omega),by show min s.left 0-_<=s.left;omega⟩
  split
  ·exact⟨(Gr.fail s a).mono (by omega) (by omega),by show min s.left 0-_<=s.left;omega⟩
  split
  ·refine⟨SI e _ (fun x b=>f.row _ _ b) d s a,?_⟩
   have:=SJ e (E.row t) (fun x b=>f.row _ _ b) d s a;unfold LB at*;omega
  split
  ·obtain⟨y,p,r⟩:=jV j (Qn f j e m) l 0 (Oi u) d 0 (s.write [91]) w (by omega) (show PB (s.write [91])from a)
   refine⟨((Gr.write s [91]).trans y).mono (by decide) (by omega),?_⟩;unfold LB;have v:(s.write [91]).left=s.left:=rfl;rw[v]at p r;rcases Int.le_total s.left 0 with q|q
   ·have:=p q;omega
   ·have:=r q;omega
  ·exact⟨(Gr.write s _).mono (YL k n t g h) (by omega),by show min s.left 0-_<=s.left;omega⟩
theorem VS.first{m:Nat}{v:PV}{c:RV}(e:VS m c):VS m (Ki v c):=by
 obtain⟨k,n,t,l⟩:=c;unfold Ki;cases m with
 |zero=>
  obtain⟨a,b,rfl⟩:=e;exact⟨a,b,by split<;>simp⟩
 |succ m=>
  obtain⟨a,b,g,f⟩:=e;refine⟨a,b,?_,fun c d=>?_⟩
  ·split
   ·exact g
   ·rw[List.length_take];omega
  ·split at d
   ·exact f c d
   ·exact f c (List.mem_of_mem_take d)
theorem Uf(c:Ip E)(id typ:yF):∀x,Kb E id typ=some x->Et x:=by
 intro x a;unfold Kb at a;cases b:E.row id with
 |none=>rw[b]at a;cases a
 |some r=>
  rw[b,Option.bind_some]at a;split at a
  ·cases a
  ·cases a;exact c.row _ _ b
theorem Za(c:Ip E)(e:EK obj)(b:JT N obj)(r:MR)(g:Et r)(d:Am)(f:QF)(s:Aj)(a:PB s):Gr s (Er E obj r d f s).2 10000 25010050/\LB (N+1603) s (Er E obj r d f s).2:=by
 unfold Er;split
 ·exact⟨(Gr.fail s a).mono (by omega) (by omega),by show min s.left 0-_<=s.left;omega⟩
 split
 ·refine⟨SI b _ (Uf c _ _) _ s a,?_⟩
  have:=SJ b (Kb E (CI f.1).2.2 (Te d.ty)) (Uf c _ _) f.2 s a;unfold LB at*;omega
 split
 ·exact Qn c e b 1603 _ _ _ s (g _) a
 ·exact Qn c e b 1603 _ _ _ s (g _).first a
theorem UY(a:Ip E)(e:EK obj)(h:JT N obj)(r:MR)(i:Et r)(f:QF)(s:Aj)(c:PB s):Gr s (DI E obj r f s).2 10000010 50020100/\LB (N+1603) s (DI E obj r f s).2:=by
 have b:∀t,LB (N+1603) s (s.write t):=fun t=>by show min s.left 0-_<=s.left;omega
 unfold DI;split
 ·refine⟨(Gr.write s _).mono ?_ (by omega),b _⟩
  have l:=Qc (E.obj r.1).name.data.toList;have m:(E.obj r.1).name.data.toList.length=(E.obj r.1).name.size:=by simp
  have n:=a.on r.1;omega
 split
 ·exact⟨(Gr.write s _).mono (by have:=a.nm;omega) (by omega),b _⟩
 split
 ·exact⟨(Gr.write s _).mono (by have:=a.fl (CI f.1).2.2;omega) (by omega),b _⟩
 ·simp only[]
  generalize (EQ (E.obj r.1).fields f.1.name).getD Vh=d;obtain⟨g,j⟩:=Za a e h r i d f s c;have k:=Qk E e r d f s;refine⟨(g.trans (Gr.settle s.data.length (Er E obj r d f s).1 (Dk d.ty) _ (c.pl k))).mono (by omega) (by omega),?_⟩;unfold LB at*;rw[LB.settle];exact j
def ZE(l:List QF):Prop:=∀f∈l,f.1.key.size<=4000
theorem VI(f:QF):(AK f).length=f.1.key.size+2:=by unfold AK;simp
theorem PB.write{s:Aj}(a:PB s)(t:List UInt8):PB (s.write t):=a
theorem Xk(n:Ip E)(d:EK obj)(m:JT N obj)(r:MR)(t:Et r){f:QF}(v:f.1.key.size<=4000){s s1:Aj}(q:PB s)(e:¬s.step.left<0)(a:s1.left=s.step.left)(b:s1.path=s.path)(i:s1.errs=s.errs)(j:s1.data.length<=s.data.length+1):PB ((s1.enter (AK f)).write (AK f++[58]))/\Gr s ((DI E obj r f ((s1.enter (AK f)).write (AK f++[58]))).2.leave s1.path.length) 0 0/\PL s ((DI E obj r f ((s1.enter (AK f)).write (AK f++[58]))).2.leave s1.path.length)/\ -((N+1603:Nat):Int)<=(DI E obj r f ((s1.enter (AK f)).write (AK f++[58]))).2.left:=by
 have p:=VI f;have c:PB ((s1.enter (AK f)).write (AK f++[58])):=(q.step e a b (by omega)).write _;obtain⟨k,g⟩:=UY n d m r t f _ c;have u:=OQ E d r f ((s1.enter (AK f)).write (AK f++[58]));have l:=(((Gr.enter s1 (AK f)).trans (Gr.write (s1.enter (AK f)) (AK f++[58]))).trans k).trans (Gr.left (DI E obj r f ((s1.enter (AK f)).write (AK f++[58]))).2 s1.path.length);have w:(AK f++[58]).length=f.1.key.size+3:=by rw[xJ,p];rfl
 have p3:PL s1 ((DI E obj r f ((s1.enter (AK f)).write (AK f++[58]))).2.leave s1.path.length):=PL.around ((PL.write _ _).trans u);have hs:s.step.left=s.left-1:=rfl;refine⟨c,l.paid e a j i (by omega) (by omega),⟨p3.1.trans b,by have:=p3.2;omega⟩,?_⟩;unfold LB at g;have h:((s1.enter (AK f)).write (AK f++[58])).left=s1.left:=rfl;rw[h]at g;omega
theorem Rf(i:Nat)(s:Aj):(if 0<i then s.step.write [44]else s.step).left=s.step.left/\(if 0<i then s.step.write [44]else s.step).path=s.path/\(if 0<i then s.step.write [44]else s.step).errs=s.errs/\(if 0<i then s.step.write [44]else s.step).data.length<=s.data.length+1:=by
 split
 ·exact⟨rfl,rfl,rfl,by show(s.data++[44]).length<=_;simp⟩
 ·exact⟨rfl,rfl,rfl,by show s.data.length<=_;omega⟩
theorem pA(v:Ip E)(x:EK obj)(a:JT N obj)(r:MR)(y:Et r):∀(l:List QF) (i b:Nat) (s:Aj),ZE l->PB s->Gr s (Cv E obj r l i b s).2 1 0/\(s.left<=0->s.left-1<=(Cv E obj r l i b s).2.left)/\(0<=s.left-> -((N+1604:Nat):Int)<=(Cv E obj r l i b s).2.left):=by
 intro l
 induction l with
 |nil=>
  intro i b s _ _;rw[Cv];exact⟨Gr.write s [125],fun a=>by show s.left-1<=s.left;omega,fun a=>by show _<=s.left;omega⟩
 |cons f l B=>
  intro i b s c d;rw[Cv];by_cases e:s.step.left<0
  ·rw[xH e]
   have C:s.step.left=s.left-1:=rfl;refine⟨⟨?_,?_⟩,fun a=>?_,fun a=>?_⟩
   ·show s.data.length+20000000*s.step.left.toNat<=_
    omega
   ·show s.errs.length+60000000*s.step.left.toNat<=_
    omega
   ·show s.left-1<=s.step.left
    omega
   ·show _<=s.step.left
    omega
  ·rw[xG e]
   have u:=Rf i s;generalize (if 0<i then s.step.write [44]else s.step)=s1 at*;obtain⟨k,m,n,p⟩:=u;simp only[];obtain⟨-,t,p4,D⟩:=Xk v x a r y (c f yB) d e k m n p;generalize DI E obj r f ((s1.enter (AK f)).write (AK f++[58]))=z at*;obtain⟨A,g,h⟩:=B (i+1) (if z.1=true then b else 2) (z.2.leave s1.path.length) (fun c' w=>c c' (yA _ w)) (d.pl p4);have hs:s.step.left=s.left-1:=rfl;refine⟨(t.trans A).mono (by omega) (by omega),fun a=>by omega,fun a=>?_⟩;have j:(z.2.leave s1.path.length).left=z.2.left:=rfl;rw[j]at g h;rcases Int.le_total z.2.left 0 with q|q
   ·have:=g q;omega
   ·have:=h q;omega
end
theorem JK{E:AM}(c:Ip E):∀f,JT (1604*f) (AV E f)
 |0=>⟨fun r a s _ _=>(Gr.refl s).mono (by omega) (by omega),fun r a s _ _=>by show min s.left 0-_<=s.left;omega⟩
 |f+1=>by
  have e:=fun(r:MR) (a:List Nat) (s:Aj) (b:Et r)=>pA c (GX E f) (JK c f) r b (DG E.parts (AW (E.obj r.1) E.uns) a) 0 0 (s.write [123]) (fun g k=>c.key _ _ g k);refine⟨fun r a s b d=>?_,fun r a s b d=>?_⟩
  ·rw[AV]
   exact((Gr.write s [123]).trans (e r a s b d).1).mono (by decide) (by omega)
  ·rw[AV]
   obtain⟨-,h,i⟩:=e r a s b d;unfold LB;have j:(s.write [123]).left=s.left:=rfl;rw[j]at h i;rcases Int.le_total s.left 0 with q|q
   ·have:=h q;omega
   ·have:=i q;omega
def DL(n:Nat)(s:Aj):Prop:=n<=s.data.length
theorem DL.write{n:Nat}{s:Aj}(a:DL n s)(t:List UInt8):DL n (s.write t):=by
 show n<=(s.data++t).length;unfold DL at a;rw[xJ];omega
theorem DL.settle{n k c:Nat}{st:Bool}{s:Aj}(a:DL n s)(d:n<=k):DL n (Cg k c st s).2:=by
 have b:DL n (s.cutNull k):=by
  show n<=(s.data.take k++FR).length;unfold DL at a;rw[xJ,List.length_take];omega
 unfold Cg;split
 ·exact a
 ·show DL n (if c=1/\st=true then(s.cutNull k).fail else s.cutNull k)
  split
  ·exact b
  ·exact b
def KL(a:Cd):Prop:=∀r b s n,DL n s->DL n (a r b s).2
theorem Yu{a:Cd}(c:KL a)(r:Option MR)(b:List Nat)(s:Aj)(n:Nat)(hs:DL n s):DL n (GH a r b s).2:=by
 unfold GH;cases r with
 |none=>exact hs
 |some r=>exact c r b s n hs
mutual
theorem Qm(E:AM){e:Cd}(d:KL e):∀(c:RV) (b:Bv) (a:List Nat) (s:Aj) (n:Nat),DL n s->DL n (BR E e c b a s).2
 | .mk k m t l,b,a,s,n,hs=>by
   rw[BR];split
   ·exact hs
   split
   ·exact hs
   split
   ·exact Yu d _ _ _ n hs
   split
   ·exact Vx E d l 0 (Oi b) a 0 (s.write [91]) n (hs.write _)
   ·exact hs.write _
theorem Vx(E:AM){g:Cd}(e:KL g):∀(l:List RV) (i:Nat) (b:Bv) (a:List Nat) (d:Nat) (s:Aj) (n:Nat),DL n s->DL n (Cp E g l i b a d s).2
 |[],i,b,a,d,s,n,hs=>by rw[Cp];exact hs.write _
 |c::l,i,b,a,d,s,n,hs=>by
  rw[Cp];split
  ·exact hs
  ·have f:DL n (if 0<i then s.step.write [44]else s.step):=by
    split
    ·exact DL.write (s:=s.step) hs _
    ·exact hs
   generalize (if 0<i then s.step.write [44]else s.step)=s1 at*;have h:=Qm E e c b a (s1.enter (AH i)) n f;exact Vx E e l (i+1) b a _ _ n (h.settle f)
end
theorem YZ(E:AM){b:Cd}(a:KL b)(r:MR)(d:Am)(f:QF)(s:Aj)(n:Nat)(hs:DL n s):DL n (Er E b r d f s).2:=by
 unfold Er;split
 ·exact hs
 split
 ·exact Yu a _ _ _ n hs
 split
 ·exact Qm E a _ _ _ _ n hs
 ·exact Qm E a _ _ _ _ n hs
theorem UX(E:AM){a:Cd}(b:KL a)(r:MR)(f:QF)(s:Aj)(n:Nat)(hs:DL n s):DL n (DI E a r f s).2:=by
 unfold DI;split
 ·exact hs.write _
 split
 ·exact hs.write _
 split
 ·exact hs.write _
 ·exact(YZ E b r _ f s n hs).settle hs
theorem Sk(E:AM){c:Cd}(b:KL c)(r:MR):∀(l:List QF) (i a:Nat) (s:Aj) (n:Nat),DL n s->DL n (Cv E c r l i a s).2
 |[],i,a,s,n,hs=>by rw[Cv];exact hs.write _
 |f::l,i,a,s,n,hs=>by
  rw[Cv];split
  ·exact hs
  ·have d:DL n (if 0<i then s.step.write [44]else s.step):=by
    split
    ·exact DL.write (s:=s.step) hs _
    ·exact hs
   generalize (if 0<i then s.step.write [44]else s.step)=s1 at*;exact Sk E b r l (i+1) _ _ n (UX E b r f _ n (DL.write (s:=s1.enter (AK f)) d _))
theorem NO(E:AM):∀f,KL (AV E f)
 |0,_,_,s,n,hs=>hs
 |f+1,r,a,s,n,hs=>by rw[AV];exact Sk E (NO E f) r _ 0 0 (s.write [123]) n (hs.write _)
structure RB(k j:Nat)(s:Aj):Prop where
 d:s.data.length+20000000*s.left.toNat<=50000000000000+k
 e:s.errs.length+60000000*s.left.toNat<=50000000000000+j
 p:PB s
 l: -100000000<=s.left
 h:s.left<=5000
theorem RB.room{k j:Nat}{s:Aj}(a:RB k j s)(h:k<=1000000000000)(g:j<=1000000000000):Eu s:=by
 have c:=a.d;have f:=a.e;have b:=a.p;unfold PB at b;exact⟨by omega,by omega,by omega,by have:=a.l;omega,by have:=a.h;omega⟩
theorem RB.len{k j:Nat}{s:Aj}(a:RB k j s)(c:k<=1000000000000):s.data.length<=60000000000000:=by have b:=a.d;omega
theorem RB.gr{k j c e:Nat}{s b:Aj}(a:RB k j s)(g:Gr s b c e)(p:PL s b)(f: -100000000<=b.left):RB (k+c) (j+e) b:=⟨by have:=a.d;have:=g.d;omega,by have:=a.e;have:=g.e;omega,a.p.pl p,f,by have:=a.h;have:=p.2;omega⟩
theorem RB.write{k j:Nat}{s:Aj}(a:RB k j s)(t:List UInt8):RB (k+t.length) j (s.write t):=a.gr (Gr.write s t) (PL.write s t) a.l
theorem RB.paid{k j:Nat}{s s1 c:Aj}(b:RB k j s)(x:k<=10000000)(w:j<=50000000)(h:¬s.step.left<0)(a:s1.left=s.step.left)(f:s1.path=s.path)(g:s1.errs=s.errs)(n:s1.data.length<=s.data.length+1)(t u:List UInt8)(m:t.length<=4900)(y:u.length<=9000000)(l:c=(s1.enter t).write u):RB 0 0 c:=by
 have q:s.step.left=s.left-1:=rfl;have i:PB (s1.enter t):=b.p.step h a f m;subst l;have hd:=b.d;have r:=b.e;have v:=b.h;refine⟨?_,?_,i,?_,?_⟩
 ·show(s1.data++u).length+20000000*s1.left.toNat<=_
  rw[xJ,a];omega
 ·show s1.errs.length+60000000*s1.left.toNat<=_
  rw[g,a];omega
 ·show _<=s1.left
  rw[a];omega
 ·show s1.left<=_
  rw[a];omega
theorem UO(s:Aj)(t:List UInt8)(a:t≠[]):(s.enter t).path≠[]:=by
 show Cf s.path++t≠[];intro e;exact a (List.append_eq_nil_iff.1 e).2
theorem Rh{n:Nat}{s:Aj}(a:DL n s)(b:0<n):s.data≠[]:=fun e=>by unfold DL at a;rw[e]at a;simp at a;omega
theorem Xf:∀(l:List UInt8) (n:Int),Bh l n<=10^l.length*(n.natAbs+23)/\ -(10^l.length*(n.natAbs+23))<=Bh l n
 |[],n=>by rw[Bh];simp;omega
 |c::l,n=>by
  rw[Bh];have a:=Xf l (10*n+((c.toNat:Int)-48));have e:c.toNat<256:=c.toNat_lt;have b:(10*n+((c.toNat:Int)-48)).natAbs+23<=10*(n.natAbs+23):=by omega
  have d:(10:Int)^l.length*((10*n+((c.toNat:Int)-48)).natAbs+23)<=10^(c::l).length*(n.natAbs+23):=by
   rw[xU,Int.pow_succ,Int.mul_assoc];refine Int.mul_le_mul_of_nonneg_left (by omega) (Int.pow_nonneg (by omega))
  omega
theorem Xe{l:List UInt8}(a:l.length<=9):BE (Bh l 0)/\BE (-Bh l 0):=by
 have c:=Xf l 0;have b:(10:Int)^l.length<=10^9:=by exact_mod_cast Nat.pow_le_pow_right (by omega) a
 have d:(10:Int)^l.length*((0:Int).natAbs+23)<=10^9*23:=by
  refine Int.mul_le_mul b (by simp) (by simp) (by omega)
 unfold BE;omega
theorem oT{l:List UInt8}{x:Int×Nat}(a:BJ l=some x):BE x.1:=by
 unfold BJ at a;dsimp only at a;generalize (if l.head?=some 45 then 1 else 0:Nat)=b at a;generalize Av (l.drop b) AP=k at a;by_cases c:k<1\/9<k\/0<Av (l.drop (b+k)) DK\/(1<k/\(l.drop b).head?=some 48)
 ·rw[xH c]at a;cases a
 ·rw[xG c]at a
  have e:=xD a;subst e;simp only[not_or]at c;have d:((l.drop b).take k).length<=9:=by rw[List.length_take];omega
  show BE (if b=1 then _ else _);split
  ·exact(Xe d).2
  ·exact(Xe d).1
theorem BE.z:BE 0:=⟨by omega,by omega⟩
theorem kW{l:List UInt8}{x:Tk×Nat}(a:Bm l=some x):BE x.1.n:=by
 unfold Bm at a;split at a
 ·cases a
 ·split at a
  ·cases a;exact BE.z
  split at a
  ·obtain⟨y,b,rfl⟩:=yC.1 a
   exact oT b
  split at a
  ·obtain⟨y,b,rfl⟩:=yC.1 a
   exact BE.z
  split at a
  ·cases a;exact BE.z
  ·obtain⟨y,b,rfl⟩:=yC.1 a
   exact BE.z
theorem lH:∀(f:Nat) (l:List UInt8) (b:List Tk),Ez f l=some b->∀t∈b,BE t.n:=by
 intro f
 induction f with
 |zero=>intro l b a;cases a
 |succ f h=>
  intro l b a
  match l with
  |[]=>cases a;intro t d;cases d
  |c::r=>
   simp only[Ez]at a;split at a
   ·exact h r b a
   split at a
   ·exact h _ b a
   ·cases g:Bm (c::r)with
    |none=>rw[g]at a;cases a
    |some x=>
     rw[g]at a;simp only at a;obtain⟨j,i,rfl⟩:=yC.1 a;intro t d;rcases yE.1 d with e|e
     ·rw[e];exact kW g
     ·exact h _ j i t e
def TN(s:St):Prop:=∀t∈s.getD [],BE t.n
theorem TN.cut(x:yF):TN (Ad x):=fun t b=>by
 cases a:Ad x with
 |none=>rw[a]at b;simp at b
 |some d=>
  rw[a]at b;unfold Ad at a;split at a
  ·cases a
  ·split at a
   ·cases a
   ·rename_i l c
    split at a
    ·cases a;exact lH _ _ _ c t b
    ·cases a
theorem TN.none:TN none:=fun t a=>by simp at a
theorem TN.tl{s:St}(a:TN s):TN (tl s):=by
 match s with
 | .none=>exact a
 |some []=>exact a
 |some (t::l)=>exact fun u b=>a u (yA _ b)
theorem TN.hd{s:St}(a:TN s):BE (hd s).n:=by
 match s with
 | .none=>exact BE.z
 |some []=>exact BE.z
 |some (t::l)=>exact a t yB
theorem TN.must{s:St}(a:TN s)(b:Bool):TN (mustT s b):=by
 cases b
 ·exact TN.none
 ·exact a.tl
theorem TN.tx{s:St}(a:TN s):TN (Il s):=by
 unfold Il;split
 ·exact a.tl
 ·exact TN.none
theorem TN.lit{s:St}(a:TN s):BE (FA s).n:=by
 unfold FA;split
 ·exact a.hd
 split
 ·exact BE.z
 split
 ·exact⟨by show(-9223372036854775808:Int)<=1;omega,by show(1:Int)<=9223372036854775807;omega⟩
 split
 ·exact BE.z
 ·exact BE.z
def NV:Nat->RV->Prop
 |0,.mk _ n _ _=>BE n
 |k+1,.mk _ n _ l=>BE n/\∀c∈l,NV k c
theorem NV.up:∀(k:Nat) (r:RV),Fq k r->NV k r->NV (k+1) r
 |0,.mk sh n s l,b,k=>⟨k,fun c a=>by rw[b.2.2]at a;cases a⟩
 |m+1,.mk sh n s l,b,k=>⟨k.1,fun c a=>NV.up m c (b.2.2.2 c a) (k.2 c a)⟩
theorem TA:∀(f:Nat),(∀(d:Nat) (s:St),EH s->ln s<=801->TN s->NV f (Bb f d s).1/\TN (Bb f d s).2)/\∀(d:Nat) (s:St),EH s->ln s<=801->TN s->(∀r∈(Bj f d s).1,NV f r)/\TN (Bj f d s).2
 |0=>⟨fun d s _ _ g=>by rw[Bb];exact⟨BE.z,g⟩,fun d s _ _ g=>by rw[Bj];exact⟨fun r h=>by simp at h,g⟩⟩
 |f+1=>by
  obtain⟨u,m⟩:=TA f;refine⟨fun d s k i g=>?_,fun d s k i g=>?_⟩
  ·rw[Bb]
   split
   ·exact⟨⟨g.lit,fun c j=>by cases j⟩,g.tl⟩
   split
   ·exact⟨⟨BE.z,fun c j=>by cases j⟩,g.tl⟩
   split
   ·exact⟨⟨BE.z,fun c j=>by cases j⟩,g.tl.tx⟩
   ·have hs:EH (if 10<=d then none else mustT s (Ae s 12)):=by split;exact MG;exact Zn k _
    have q:ln (if 10<=d then none else mustT s (Ae s 12))<=ln s:=by split;exact wZ _;exact DA _ _
    have t:TN (if 10<=d then none else mustT s (Ae s 12)):=by split;exact TN.none;exact g.must _
    obtain⟨a,b⟩:=m d _ hs (wV q i) t;exact⟨⟨BE.z,a⟩,b⟩
  ·rw[Bj]
   split
   ·exact⟨fun r h=>by simp at h,g⟩
   split
   ·exact⟨fun r h=>by simp at h,g.tl⟩
   ·obtain⟨a,b⟩:=u (d+1) s k i g
    obtain⟨v,k2⟩:=(PJ f).1 (d+1) s k i;have l:=(RU f).1 (d+1) s;obtain⟨n,p⟩:=m d _ k2 (wV l i) b;refine⟨fun r h=>?_,p⟩;rcases yE.1 h with e|e
    ·rw[e];exact NV.up _ _ v a
    ·exact NV.up _ _ (((PJ f).2 d _ k2 (wV l i)).2.1 r e) (n r e)
theorem ZH(x:yF):NV 1603 (CZ x):=by
 have a:EH (Ad x)/\ln (Ad x)<=801:=by
  cases c:Ad x with
  |none=>exact⟨MG,wZ _⟩
  |some b=>have:=Nn x b c;exact⟨this.1,by show b.length+1<=801;omega⟩
 exact((TA 1603).1 0 (Ad x) a.1 a.2 (TN.cut x)).1
theorem VL(sh:Nat)(n:Int)(s:yF)(hs:s.size<=4000)(a:BE n):(Ce (sh,n,s)).2.2.size<=4000/\BE (Ce (sh,n,s)).2.1:=by
 unfold Ce;simp only[];split
 ·split
  ·exact⟨wZ _,BE.z⟩
  ·exact⟨wZ _,BE.z⟩
 split
 ·exact⟨hs,a⟩
 split
 ·exact⟨hs,a⟩
 split
 ·exact⟨hs,a⟩
 ·exact⟨hs,a⟩
theorem TG:∀(k:Nat) (r:RV),Fq k r->NV k r->VS k (pv r)
 |0,.mk sh n s l,a,k=>by
  rw[pv,Kt];have q:=VL sh n s a.2.1 k;exact⟨q.1,q.2,by rw[a.2.2];rfl⟩
 |m+1,.mk sh n s l,a,k=>by
  rw[pv,Kt];have q:=VL sh n s a.2.1 k.1;refine⟨q.1,q.2,by rw[xT];have:=a.2.2.1;omega,fun c d=>?_⟩;obtain⟨c0,b,rfl⟩:=List.mem_map.1 d;exact TG m c0 (a.2.2.2 c0 b) (k.2 c0 b)
theorem ZJ(x:yF):VS 1603 (pv (CZ x)):=TG _ _ (Sl x) (ZH x)
theorem TE:VS 1603 PA:=⟨by decide,BE.z,by simp,fun c a=>by cases a⟩
def VZ(l:AN):Prop:=∀t v,BH l t=some v->v.2.2.size<=4000
theorem VZ.nil:VZ []:=fun t v a=>by cases a
theorem VZ.cons{l:AN}{n:yF}{v:PV}(b:VZ l)(c:v.2.2.size<=4000):VZ ((n,v)::l):=fun t u a=>by
 rw[BH]at a;split at a
 ·cases a;exact c
 ·exact b t u a
theorem Zh:∀(f:Nat) {l:AN} {s:St},VZ l->TB s->VZ (FQ f l s).1
 |0,l,s,a,_=>a
 |f+1,l,s,a,hs=>by
  rw[FQ];split
  ·have b:TB (JO l s):=by
    unfold JO;split
    ·exact TB.none
    ·exact hs.nK 3
   exact Zh f (a.cons (b.nK 9).valK.1) (b.nK 9).pVal
  ·exact a
theorem vT(x:yF):VZ (FP (Ad x)).1:=by
 unfold FP;split
 ·exact VZ.nil
 ·exact Zh 801 VZ.nil ((TB.cut x).nK 14)
theorem Yh{s:St}(a:TB s):(CW s).1.dflt.2.2.size<=4000:=by
 unfold CW;simp only[];have b:=a.nK 6;have c:=(b.nmT).nK 9;have d:=(c.nmT).mayT (Ae (nmT (nK (nmT (nK s 6)) 9)) 5);have e:=d.mayT (Ae (mayT (nmT (nK (nmT (nK s 6)) 9)) (Ae (nmT (nK (nmT (nK s 6)) 9)) 5)) 10);split
 ·exact e.valK.1
 ·exact wZ _
theorem Yi:∀(f:Nat) {s:St},TB s->∀x∈(Dj f s).1,x.dflt.2.2.size<=4000
 |0,s,c=>fun a b=>by simp[Dj]at b
 |f+1,s,c=>by
  rw[Dj];split
  ·intro a b
   rcases yE.1 b with e|e
   ·rw[e];exact Yh c
   ·exact Yi f (Qb c).2.2 a e
  ·intro a b
   simp at b
theorem pL{s:St}(c:TB s):∀x∈(GF s).1,x.dflt.2.2.size<=4000:=by
 unfold GF;split
 ·intro a b
  rcases yE.1 b with e|e
  ·rw[e];exact Yh c.tl
  ·exact Yi 801 (Qb c.tl).2.2 a e
 ·intro a b
  simp at b
def OD(Q:Qy):Prop:=∀o∈Q.ops,∀x∈o.1,x.dflt.2.2.size<=4000
theorem XU{q:Qy}{s:St}(a:OD q)(c:TB s):OD (Cl q s).1:=by
 unfold Cl;split
 ·intro o b
  rcases yD.1 b with e|e
  ·exact a o e
  ·rw[List.mem_singleton]at e;rw[e];intro x d;simp at d
 split
 ·rw[My]
  intro o b;rcases yD.1 b with e|e
  ·exact a o e
  ·rw[List.mem_singleton]at e;rw[e];exact pL (c.tl.mayT (Ae (tl s) 1))
 split
 ·exact a
 ·exact a
theorem XX:∀(f:Nat) {q:Qy} {s:St},QZ q->OD q->TB s->OD (FJ f q s).1
 |0,q,s,_,a,b=>a
 |f+1,q,s,d,a,b=>by
  rw[FJ];split
  ·exact a
  ·have c:=Mx d b
   exact XX f c.1 (XU a b) c.2
theorem rI(x:yF):OD (Bk (Ad x)).1:=by
 have d:QZ ⟨[],[],[]⟩:=⟨PZ.nil,fun x a=>by simp at a,fun x a=>by simp at a⟩;have b:=Mx (q:=⟨[],[],[]⟩) d (TB.cut x);exact XX 801 b.1 (XU (fun o c=>by cases c) (TB.cut x)) b.2
theorem Um{c:AN}(e:VZ c):∀(g:List Eb) (b l:AN),(∀x∈g,x.dflt.2.2.size<=4000)->VZ b->Fi c g b=some l->VZ l
 |[],b,l,_,d,a=>by cases a;exact d
 |x::r,b,l,f,d,a=>by
  rw[Fi]at a;split at a
  ·cases a
  split at a
  ·cases a
  split at a
  ·cases a
  ·refine Um e r _ l (fun y i=>f y (yA _ i)) (d.cons ?_) a
   unfold Gj;cases h:BH c x.name with
   |none=>exact f x yB
   |some v=>exact e _ v h
theorem bW{Q:Qy}{l:AN}(f:QZ Q)(m:VZ l):∀P∈(CS l Q).parts,∀x∈P.sels,x.key.size<=4000/\∀a∈x.args,a.2.2.2.size<=4000:=by
 intro P g x q;obtain⟨c,h,rfl⟩:=List.mem_map.1 (show P∈Q.parts.map _ from g);obtain⟨e,r,rfl⟩:=List.mem_map.1 (show x∈c.sels.map (Hu l)from q);have z:=f.p c h e r;refine⟨z.k,fun a i=>?_⟩;obtain⟨b,j,rfl⟩:=List.mem_map.1 (show a∈e.args.map (Ni l)from i);have d:=z.a b j;show(Df l b.2).2.2.size<=4000;unfold Df;split
 ·cases n:BH l b.2.2.2 with
  |none=>exact d
  |some v=>exact m _ v n
 ·exact d
end Go.Proofs.YtogdodlibkckkaaGreatDoor
