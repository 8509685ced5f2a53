import Derived.Test.YtogdodlibkckkaaGreatDoorZ06
import Derived.Test.YtogdodlibkckkaaGreatDoorZ13
import Derived.Deep.DeepCutAuto
namespace Go.Proofs.YtogdodlibkckkaaGreatDoor
set_option maxHeartbeats 20000000
set_option maxRecDepth 100000
open Go.RowKit Tryz
structure FT(B0:Nat)(K:List TypeId)(w X:World):Prop where
 os:X.os=w.os
 tape:X.tape=w.tape
 output:X.output=w.output
 size:w.heap.size<=X.heap.size
 low:∀k,k<B0->X.heap[k]?=w.heap[k]?
 typ:∀(k:Nat) (o:Obj),w.heap[k]?=some o->(∀(cs:Array Value) (t:TypeId) (fr:Nat×Nat),o=Obj.cells cs t fr->t∉K)->X.heap[k]?=some o
section
variable {B0 b F B n size:Nat} {K:List TypeId} {w X Y:World} {e T:TypeId} {v:Value} {xs:List Value} {cs:Array Value} {fr:Nat×Nat} {o:Obj}
theorem FT.refl(B0:Nat)(K:List TypeId)(w:World):FT B0 K w w:=⟨rfl,rfl,rfl,wQ _,fun _ _=>rfl,fun _ _ a _=>a⟩
theorem FT.trans(a:FT B0 K w X)(k:FT B0 K X Y):FT B0 K w Y:=
 ⟨k.os.trans a.os,k.tape.trans a.tape,k.output.trans a.output,wV a.size k.size,fun i b=>(k.low i b).trans (a.low i b),fun i o b c=>k.typ i o (a.typ i o b c) c⟩
theorem FT.of_below(a:yG w X)(hb:B0<=w.heap.size):FT B0 K w X:=
 ⟨a.os,a.tape,a.output,a.size,fun k b=>a.block k (by omega),fun k o b _=>(a.block k (Ab b)).trans b⟩
theorem FT.bt(a:FT B0 K w X)(k:yG X Y)(hb:B0<=w.heap.size):FT B0 K w Y:=a.trans (.of_below k (wV hb a.size))
theorem FT.al(a:FT B0 K w X)(hb:B0<=w.heap.size)(o:Obj):FT B0 K w (X.alloc o):=a.bt ((wR _ _).alloc (wQ _) _) hb
theorem FT.dr(a:FT B0 K w X):FT B0 K w X.drew:=⟨a.os,a.tape,a.output,a.size,a.low,a.typ⟩
theorem FT.st(b:FT B0 K w X)(hF:X.heap[F]?=some (.cells cs T fr))(c:T∈K)(f:B0<=F)(i:Nat)(u:Value):FT B0 K w (X.setCell ⟨F,i,none⟩ u):=
 b.trans ⟨rfl,rfl,rfl,by simp[World.setCell],fun k a=>xC _ _ _ _ (show k≠F by omega),fun k o a d=>(xC _ _ _ _ (show k≠F from fun e=>by subst e;rw[hF]at a;cases a;exact d _ _ _ rfl c)).trans a⟩
theorem FT.sn(b:FT B0 K w X)(hb:B0<=w.heap.size)(a:Addr)(e:w.heap.size<=a.block)(u:Value):FT B0 K w (X.setCell a u):=
 ⟨b.os,b.tape,b.output,wV b.size (by simp[World.setCell]),fun k c=>(xC _ _ _ _ (by omega)).trans (b.low k c),fun k o c d=>(xC _ _ _ _ (by have:=Ab c;omega)).trans (b.typ k o c d)⟩
theorem FT.of_keep(a:Ag b w X)(hb:w.heap[b]?=some (.cells cs T fr))(d:T∈K)(g:B0<=b)(h:B0<=w.heap.size):FT B0 K w X:=
 ⟨a.os,a.tape,a.output,a.size,fun k c=>a.block k (by omega) (by omega),fun k o c f=>(a.block k (Ab c) (fun e=>by subst e;rw[hb]at c;cases c;exact f _ _ _ rfl d)).trans c⟩
theorem FT.kn(a:FT B0 K w X)(k:Ag b X Y)(hb:w.heap.size<=b)(e:B0<=w.heap.size):FT B0 K w Y:=
 ⟨k.os.trans a.os,k.tape.trans a.tape,k.output.trans a.output,wV a.size k.size,fun i c=>(k.block i (by have:=a.size;omega) (by omega)).trans (a.low i c),fun i o c d=>(k.block i (by have:=Ab c;have:=a.size;omega) (by have:=Ab c;omega)).trans (a.typ i o c d)⟩
theorem FT.gr{row:Option Nat}(a:FT B0 K w X)(b:X.grownBy Y row)(f:∀k,row=some k->(B0<=k/\∃(cs:Array Value) (t:TypeId) (fr:Nat×Nat),X.heap[k]?=some (Obj.cells cs t fr)/\t∈K)\/w.heap.size<=k)(j:B0<=w.heap.size):FT B0 K w Y:=
 ⟨b.os.trans a.os,b.tape.trans a.tape,b.output.trans a.output,wV a.size b.size,fun i c=>(b.block i (by have:=a.size;omega) (fun e=>by rcases f i e.symm with⟨q,_⟩|q<;>omega)).trans (a.low i c),fun i o c g=>by
  have d:=a.typ i o c g;refine(b.block i (Ab d) (fun e=>?_)).trans d;rcases f i e.symm with⟨_,cs,t,fr,q,h⟩|q
  ·rw[d]at q;exact g _ _ _ (xD q) h
  ·have:=Ab c;omega⟩
theorem FT.at(a:FT B0 K w X){k:Nat}(c:w.heap[k]?=some (.cells cs T fr))(b:T∉K):X.heap[k]?=some (.cells cs T fr):=a.typ k _ c (fun _ _ _ e=>by cases e;exact b)
theorem FT.own(c:FT B0 K w X)(a:w.ownsRow B e size v n xs)(d:e∉K):X.ownsRow B e size v n xs:=by
 refine⟨a.1,?_⟩;rcases a.2 with q|⟨g,cap,b,i,f,h,r⟩
 ·exact Or.inl q
 ·exact Or.inr ⟨g,cap,b,i,f,c.at h d,r⟩
theorem FT.below(a:FT B0 K w X):Below B0 w X:=⟨a.os,a.tape,a.output,a.size,a.low⟩
theorem FT.mono{K':List TypeId}(a:FT B0 K w X)(c:∀t,t∈K->t∈K'):FT B0 K' w X:=⟨a.os,a.tape,a.output,a.size,a.low,fun i o b d=>a.typ i o b (fun cs t fr e q=>d cs t fr e (c t q))⟩
end
abbrev PV:=Nat×Int×yF
abbrev Es:=yF×PV
abbrev Hm:=Nat×PV
structure As where
 kind:Nat
 key:yF
 name:yF
 args:List Es
 conds:List Hm
 part:Option Nat
structure Ai where
 typ:yF
 sels:List As
structure Eb where
 name:yF
 scalar:yF
 strict:Bool
 has:Bool
 dflt:PV
abbrev Ot:=List Eb×Nat
abbrev Db:=yF×Nat
structure Qy where
 ops:List Ot
 frags:List Db
 parts:List Ai
def QV:yF:=⟨#[115,107,105,112]⟩
def QQ:yF:=⟨#[105,110,99,108,117,100,101]⟩
def Na:yF:=⟨#[105,102]⟩
def Dw:yF:=⟨#[111,110]⟩
def KV:yF:=⟨#[113,117,101,114,121]⟩
def KU:yF:=⟨#[102,114,97,103,109,101,110,116]⟩
def nK(s:St)(k:Nat):St:=mustT s (Ae s k)
def nW(s:St)(x:yF):St:=mustT s (Bu s x)
def qVal(s:St):PV×St:=if Ae s 6=true then((9,0,nm (tl s)),nmT (tl s))else(valK s,pVal s)
def qArg(s:St):Es×St:=((nm s,(qVal (nK (nmT s) 9)).1),(qVal (nK (nmT s) 9)).2)
def qArgsF:Nat->St->List Es×St
 |0,s=>([],s)
 |f+1,s=>if Ae s 1=true then((qArg s).1::(qArgsF f (qArg s).2).1,(qArgsF f (qArg s).2).2)else([],s)
def qArgs(s:St):List Es×St:=((qArg s).1::(qArgsF 801 (qArg s).2).1,nK (qArgsF 801 (qArg s).2).2 8)
def SA(n:yF):Nat:=if n=QV then 3 else if n=QQ then 4 else 0
def Lr(s:St):St:=if nm s=QV then nmT s else if nm s=QQ then nmT s else none
def Sz(s:St):St:=nK (nW (nK (Lr s) 7) Na) 9
def qCond(s:St):Hm×St:=((SA (nm s),(qVal (Sz s)).1),nK (qVal (Sz s)).2 8)
def qConds:Nat->St->List Hm×St
 |0,s=>([],s)
 |f+1,s=>if Ae s 11=true then((qCond (tl s)).1::(qConds f (qCond (tl s)).2).1,(qConds f (qCond (tl s)).2).2)else([],s)
def CW(s:St):Eb×St:=
 let s1:=nK s 6
 let b:=nK (nmT s1) 9
 let a:=nmT b
 let c:=mayT a (Ae a 5)
 let d:=mayT c (Ae c 10)
 if Ae c 10=true then(⟨nm s1,nm b,Ae a 5,true,valK d⟩,pVal d)else(⟨nm s1,nm b,Ae a 5,false,(0,0,⟨#[]⟩)⟩,d)
def Dj:Nat->St->List Eb×St
 |0,s=>([],s)
 |f+1,s=>if Ae s 6=true then((CW s).1::(Dj f (CW s).2).1,(Dj f (CW s).2).2)else([],s)
def Ex(s:St):yF×St:=if Ae (nmT s) 9=true then(nm (tl (nmT s)),nmT (tl (nmT s)))else(nm s,nmT s)
def GB(s:St):List Es×St:=if Ae s 7=true then qArgs (tl s)else([],s)
def Gd(s:St):yF×St:=if Bu s Dw=true then(nm (tl s),nmT (tl s))else(⟨#[]⟩,s)
def BB(d:Nat)(s:St):St:=if 10<d then none else s
def IH(part:Nat->yF->St->List Ai×St)(n:Nat)(s:St):As×List Ai×St:=
 let a:=GB (Ex s).2
 let c:=qConds 801 a.2
 if Ae c.2 14=true then
  let p:=part n ⟨#[]⟩ c.2
  (⟨0,nm s,(Ex s).1,a.1,c.1,some n⟩,p.1,p.2)
 else(⟨0,nm s,(Ex s).1,a.1,c.1,none⟩,[],c.2)
def JN(part:Nat->yF->St->List Ai×St)(n:Nat)(s:St):As×List Ai×St:=
 let c:=qConds 801 (Gd s).2
 let p:=part n (Gd s).1 c.2
 (⟨2,⟨#[]⟩,⟨#[]⟩,[],c.1,some n⟩,p.1,p.2)
def EE(part:Nat->yF->St->List Ai×St)(n:Nat)(s:St):As×List Ai×St:=
 if Ae s 4=true then
  if (Ae (tl s) 1&&!Bu (tl s) Dw)=true then
   (⟨1,⟨#[]⟩,nm (tl s),[],(qConds 801 (nmT (tl s))).1,none⟩,[],(qConds 801 (nmT (tl s))).2)
  else JN part n (tl s)
 else IH part n s
def Cr(a:Nat->St->As×List Ai×St):Nat->Nat->St->List As×List Ai×St
 |0,_,s=>([],[],s)
 |f+1,n,s=>
  if Co s=true then([],[],s)else if Ae s 15=true then([],[],s)else
   let x:=a n s
   let y:=Cr a f (n+x.2.1.length) x.2.2
   (x.1::y.1,x.2.1++y.2.1,y.2.2)
def FK(a:Nat->St->As×List Ai×St)(n d:Nat)(typ:yF)(s:St):List Ai×St:=
 let x:=a (n+1) (nK (BB (d+1) s) 14)
 let y:=Cr a 801 (n+1+x.2.1.length) x.2.2
 (⟨typ,x.1::y.1⟩::(x.2.1++y.2.1),nK y.2.2 15)
def BD:Nat->Nat->Nat->yF->St->List Ai×St
 |0,_,_,typ,s=>([⟨typ,[]⟩],s)
 |f+1,n,d,typ,s=>FK (EE (fun n typ s=>BD f n (d+1) typ s)) n d typ s
def II:Nat:=11
def EZ(n:Nat)(s:St):Ot×List Ai×St:=
 let s1:=mayT s (Ae s 1)
 if Ae s1 7=true then
  let v:=CW (tl s1)
  let r:=Dj 801 v.2
  let p:=BD II n 0 ⟨#[]⟩ (nK r.2 8)
  ((v.1::r.1,n),p.1,p.2)
 else
  let p:=BD II n 0 ⟨#[]⟩ s1
  (([],n),p.1,p.2)
def EY(s:St):St:=if Bu s Dw=true then none else s
def EX(n:Nat)(s:St):Db×List Ai×St:=
 let s1:=EY s
 let a:=nW (nmT s1) Dw
 let p:=BD II n 0 (nm a) (nmT a)
 ((nm s1,n),p.1,p.2)
def Cl(q:Qy)(s:St):Qy×St:=
 if Ae s 14=true then
  let p:=BD II q.parts.length 0 ⟨#[]⟩ s
  (⟨q.ops++[([],q.parts.length)],q.frags,q.parts++p.1⟩,p.2)
 else if Bu s KV=true then
  let o:=EZ q.parts.length (tl s)
  (⟨q.ops++[o.1],q.frags,q.parts++o.2.1⟩,o.2.2)
 else if Bu s KU=true then
  let o:=EX q.parts.length (tl s)
  (⟨q.ops,q.frags++[o.1],q.parts++o.2.1⟩,o.2.2)
 else(q,none)
def FJ:Nat->Qy->St->Qy×St
 |0,q,s=>(q,s)
 |f+1,q,s=>if Co s=true then(q,s)else FJ f (Cl q s).1 (Cl q s).2
def Bk(s:St):Qy×St:=FJ 801 (Cl ⟨[],[],[]⟩ s).1 (Cl ⟨[],[],[]⟩ s).2
theorem FB(s:St)(k:Nat):ln (nK s k)<=ln s:=DA _ _
theorem RX(s:St)(x:yF):ln (nW s x)<=ln s:=DA _ _
theorem Sa(s:St):ln (pVal s)<=ln s:=by
 unfold pVal;split
 ·exact BI _
 split
 ·exact BI _
 split
 ·unfold Jo;(repeat' split)<;>first|exact BI _|simp[ln]
 ·simp[ln]
theorem Wx(s:St):ln (qVal s).2<=ln s:=by
 unfold qVal;split
 ·exact wV (Bg _) (BI _)
 ·exact Sa _
theorem Pr(s:St):ln (qArg s).2<=ln (nmT s):=wV (Wx _) (FB _ _)
theorem Wv:∀(f:Nat) (s:St),ln (qArgsF f s).2<=ln s
 |0,s=>wQ _
 |f+1,s=>by
  rw[qArgsF];split
  ·exact wV (Wv f _) (wV (Pr s) (Bg s))
  ·exact wQ _
theorem Wu(s:St):ln (qArgs s).2<=ln s:=wV (FB _ _) (wV (Wv _ _) (wV (Pr s) (Bg s)))
theorem qY(f:Nat)(s:St)(a:Ae s 1=false):qArgsF f s=([],s):=by
 cases f with
 |zero=>rfl
 |succ f=>rw[qArgsF,xG (by rw[a];simp)]
theorem mZ(s:St):ln (Lr s)<=ln s:=by
 unfold Lr
 (repeat' split)<;>first|exact Bg _|simp[ln]
theorem Ww(s:St):ln (qCond s).2<=ln s:=wV (FB _ _) (wV (Wx _) (wV (FB _ _) (wV (RX _ _) (wV (FB _ _) (mZ s)))))
theorem Mp:∀(f:Nat) (s:St),ln (qConds f s).2<=ln s
 |0,s=>wQ _
 |f+1,s=>by
  rw[qConds];split
  ·exact wV (Mp f _) (wV (Ww _) (BI s))
  ·exact wQ _
theorem mK(s:St):ln (Ex s).2<=ln (nmT s):=by
 unfold Ex;split
 ·exact wV (Bg _) (BI _)
 ·exact wQ _
theorem mJ(s:St):ln (GB s).2<=ln s:=by
 unfold GB;split
 ·exact wV (Wu _) (BI _)
 ·exact wQ _
theorem mL(s:St):ln (Gd s).2<=ln s:=by
 unfold Gd;split
 ·exact wV (Bg _) (BI _)
 ·exact wQ _
def QA(part:Nat->yF->St->List Ai×St):Prop:=∀n typ s,1<=(part n typ s).1.length/\(part n typ s).1.length+ln (part n typ s).2<=ln s+1
def MO(a:Nat->St->As×List Ai×St):Prop:=∀n s,(a n s).2.1.length+ln (a n s).2.2<=ln s/\(Co s=false->ln (a n s).2.2<ln s)
theorem RY(s:St)(a:Co s=false):ln (nmT s)<ln s:=by
 rcases hs:Ae s 1 with _|_
 ·have:nmT s=none:=by unfold nmT;rw[hs];rfl
  rw[this];cases s with
  |none=>simp[Co]at a
  |some l=>cases l with
   |nil=>simp[Co]at a
   |cons t l=>simp[ln]
 ·exact Li s hs
theorem SD{part:Nat->yF->St->List Ai×St}(c:QA part):MO (EE part):=by
 intro n s;unfold EE;split
 ·rename_i h
  have e:=ET s 4 (by decide) h;split
  ·have:=Mp 801 (nmT (tl s))
   have:=Bg (tl s);simp;omega
  ·unfold JN
   have f:=mL (tl s);have g:=Mp 801 (Gd (tl s)).2;have i:=c n (Gd (tl s)).1 (qConds 801 (Gd (tl s)).2).2;simp only[];omega
 ·unfold IH
  have e:=mK s;have f:=mJ (Ex s).2;have g:=Mp 801 (GB (Ex s).2).2;have k:=Bg s;have b:=RY s;simp only[];split
  ·rename_i a
   have i:=c n ⟨#[]⟩ (qConds 801 (GB (Ex s).2).2).2;have m:=ET _ 14 (by decide) a;have j:Co s=false:=by
    cases s with
    |none=>exact absurd a (by have:ln (nmT none)=0:=rfl;omega)
    |some l=>cases l with
     |nil=>exact absurd a (by have:ln (nmT (some []))=0:=rfl;omega)
     |cons t l=>simp[Co]
   have:=b j;simp only[];omega
  ·simp only[List.length_nil]
   refine⟨by omega,fun d=>?_⟩;have:=b d;omega
theorem SE{a:Nat->St->As×List Ai×St}(hs:MO a):∀(f n:Nat) (s:St),(Cr a f n s).2.1.length+ln (Cr a f n s).2.2<=ln s
 |0,n,s=>by simp[Cr]
 |f+1,n,s=>by
  rw[Cr];split
  ·simp
  split
  ·simp
  ·have b:=hs n s
   have c:=SE hs f (n+(a n s).2.1.length) (a n s).2.2;simp only[xJ];omega
theorem Wg(d:Nat)(s:St):ln (BB d s)<=ln s:=by
 unfold BB;split
 ·simp[ln]
 ·exact wQ _
theorem rE{a:Nat->St->As×List Ai×St}(hs:MO a)(d:Nat):QA (fun n typ s=>FK a n d typ s):=by
 intro n typ s;unfold FK;have b:=Wg (d+1) s;have c:=FB (BB (d+1) s) 14;have e:=hs (n+1) (nK (BB (d+1) s) 14);have f:=SE hs 801 (n+1+(a (n+1) (nK (BB (d+1) s) 14)).2.1.length) (a (n+1) (nK (BB (d+1) s) 14)).2.2;have g:=FB (Cr a 801 (n+1+(a (n+1) (nK (BB (d+1) s) 14)).2.1.length) (a (n+1) (nK (BB (d+1) s) 14)).2.2).2.2 15;simp only[xU,xJ];omega
theorem Qa:∀(f d:Nat),QA (fun n typ s=>BD f n d typ s)
 |0,d=>fun n typ s=>by simp[BD];omega
 |f+1,d=>rE (SD (Qa f (d+1))) d
theorem SF(c:Nat->St->As×List Ai×St)(f n:Nat)(s:St)(a:(!Co s&&!Ae s 15)=false):Cr c f n s=([],[],s):=by
 cases f with
 |zero=>rfl
 |succ f=>
  rw[Cr];cases b:Co s
  ·rw[b]at a
   simp at a;simp[a]
  ·simp
theorem XT(f:Nat)(s:St)(a:Ae s 11=false):qConds f s=([],s):=by
 cases f with
 |zero=>rfl
 |succ f=>rw[qConds,xG (by rw[a];simp)]
structure LQ(w X:World)(p b G:Nat)(u v:Value)(s:St):Prop extends PK w X b G s where
 pp:X.heap[p]?=some (.cells #[.pointer (some ⟨b,0,none⟩),u,v] 171 (0,0))
 hp:p<w.heap.size
section
variable {w X Y:World} {p b G F N B0 size n:Nat} {u v:Value} {s s':St} {e:TypeId} {x:Value} {xs:List Value} {o o':Obj}
theorem LQ.c0(a:LQ w X p b G u v s):X.cell? ⟨p,0,none⟩=some (.pointer (some ⟨b,0,none⟩)):=Ac a.pp 0
theorem LQ.lt(a:LQ w X p b G u v s):p<X.heap.size:=Ab a.pp
theorem LQ.pb(a:LQ w X p b G u v s):p≠b:=fun e=>by
 obtain⟨c,d⟩:=a.ps.ty;have:=a.pp;rw[e,d]at this;cases this
theorem LQ.one(a:LQ w X p b G u v s):LQ X X p b G u v s:=⟨a.ps.pk,a.pp,a.lt⟩
theorem LQ.al(a:LQ w X p b G u v s)(o:Obj):LQ w (X.alloc o) p b G u v s:=⟨a.toPK.al o,(AJ _ _ _ a.lt).trans a.pp,a.hp⟩
theorem LQ.dr(a:LQ w X p b G u v s):LQ w X.drew p b G u v s:=⟨a.toPK.dr,a.pp,a.hp⟩
theorem LQ.st(c:LQ w X p b G u v s)(a:Addr)(d:w.heap.size<=a.block)(z:Value):LQ w (X.setCell a z) p b G u v s:=⟨c.toPK.st a d z,(xC _ _ _ _ (by have:=c.hp;omega)).trans c.pp,c.hp⟩
theorem LQ.call(a:LQ w X p b G u v s)(c:PS Y b G s')(k:Ag b X Y):LQ w Y p b G u v s':=⟨a.toPK.call c k,k.at a.pp a.pb,a.hp⟩
theorem LQ.kt(a:LQ w X p b G u v s)(k:PK X Y b G s'):LQ w Y p b G u v s':=a.call k.ps k.kp
theorem LQ.tr(a:LQ w X p b G u v s)(k:LQ X Y p b G u v s'):LQ w Y p b G u v s':=a.kt k.toPK
theorem LQ.be(a:LQ w X p b G u v s)(k:yG X Y):LQ w Y p b G u v s:=⟨a.toPK.be k,(k.block _ a.lt).trans a.pp,a.hp⟩
theorem LQ.gr(a:LQ w X p b G u v s){row:Option Nat}(c:X.grownBy Y row)(d:∀k,row=some k->w.heap.size<=k):LQ w Y p b G u v s:=
 ⟨⟨a.ps.grown c d a.hb a.hg,a.kp.grown c d,a.hb,a.hg⟩,(c.block _ a.lt (fun e=>by have:=d _ e.symm;have:=a.hp;omega)).trans a.pp,a.hp⟩
theorem LQ.app(q:LQ w X p b G u v s)(g:X.ownsRow B0 e size x n xs)(d:(X.alloc o).grownBy Y x.ownBlock)(c:w.heap.size<=N)(a:w.heap.size<=B0)(i:Nat)(z:Value):LQ w (Y.setCell ⟨N,i,none⟩ z) p b G u v s:=
 ((q.al _).gr d (fun k f=>wV a (g.lt k f).1)).st _ c _
theorem LQ.own(q:LQ w X p b G u v s)(k:Ag b X Y)(c:X.ownsRow B0 e size x n xs)(l:w.heap.size<=B0):Y.ownsRow B0 e size x n xs:=by
 refine⟨c.1,?_⟩;rcases c.2 with f|⟨g,cap,d,h,i,a,j⟩
 ·exact Or.inl f
 ·exact Or.inr ⟨g,cap,d,h,i,(k.block g (Ab a) (by have:=q.hb;omega)).trans a,j⟩
end
theorem Ed{w:World}{F k i:Nat}{o:Obj}(a:w.heap[k]?=some o)(b:k≠F)(v:Value):(w.setCell ⟨F,i,none⟩ v).heap[k]?=some o:=(xC _ _ _ _ b).trans a
def vL(v:PV):List Value:=[.int .i64 v.1,.int .i64 v.2.1,.string v.2.2]
def aL(a:Es):List Value:=[.string a.1,.int .i64 a.2.1,.int .i64 a.2.2.1,.string a.2.2.2]
def cL(a:Hm):List Value:=[.int .i64 a.1,.int .i64 a.2.1,.int .i64 a.2.2.1,.string a.2.2.2]
theorem Yn{w:World}{p b G:Nat}{u v:Value}{s:St}(h:LQ w w p b G u v s):
 Calls prog 265 #[.pointer (some ⟨p,0,none⟩)] w fun e w'=>e=.returned (.agg #[.int .i64 (qVal s).1.1,.int .i64 (qVal s).1.2.1,.string (qVal s).1.2.2])/\LQ w w' p b G u v (qVal s).2:=by
 have l:=Aa h;have D:=h.ps.lt;have E:=h.lt;have c:=h.c0;have j:=Aa (fun W (i:LQ w W p b G u v s)=>EG W b G s 6 i.ps);have r:=Aa (fun W (i:LQ w W p b G u v s)=>Ok W b G s i.ps);unfold qVal;clear h;cases e:Ae s 6
 rotate_left
 ·rw[e]at j
  have x:=Aa (fun W (i:LQ w W p b G u v (tl s))=>Eh W b G (tl s) i.ps);clear e r;rw[xH rfl];generalize nm (tl s)=n at*;generalize nmT (tl s)=F at*;go_enter func265,ntmps265;go_wp2_with fail;refine(j.o _ (l.o.al _)).mono ?_;rintro _ w1 ⟨rfl,g,f⟩;have a:=Aa (show LQ w w1 p b G u v (tl s)from(l.o.al _).call g f);have k:=Aa (f.at (wX w _) (by omega));have c1:=a.o.c0;have A:=a.o.lt;have B:=g.lt;have C:=Ab k.o;clear g f;go_wp2_with fail;refine(x.o _ a.o).mono ?_;rintro _ w2 ⟨rfl,t,k2⟩;have m:=Aa (a.o.call t k2);have d:=k2.at k.o (by omega);have c2:=Ac d;have y:=Ak d;have z:=Ab d;clear t k2 d;go_wp2;refine bodyPost_ret (v:=.agg #[.int .i64 9,.int .i64 0,.string n]) (by simp[results,results265,go_sem, *]) rfl ⟨rfl,?_⟩;repeat' with_reducible first|exact m.o|refine LQ.al ?_ _|refine LQ.st ?_ _ (wQ _) _
 ·rw[e]at j
  clear e;rw[xG (by decide)];generalize valK s=q at*;generalize pVal s=H at*;go_enter func265,ntmps265;go_wp2_with fail;refine(j.o _ (l.o.al _)).mono ?_;rintro _ w1 ⟨rfl,g,f⟩;have a:=Aa (show LQ w w1 p b G u v s from(l.o.al _).call g f);have k:=Aa (f.at (wX w _) (by omega));have c1:=a.o.c0;have A:=a.o.lt;clear g f;go_wp2_with fail;refine(r.o _ a.o).mono ?_;rintro _ w2 ⟨rfl,k2⟩;have d:=k2.kp.at k.o (by omega);have c2:=Ac d;have y:=Ak d;have z:=Ab d;have m:=Aa (a.o.kt k2);clear k2 d;go_wp2;refine bodyPost_ret (v:=.agg #[.int .i64 q.1,.int .i64 q.2.1,.string q.2.2]) (by simp[results,results265,go_sem, *]) rfl ⟨rfl,?_⟩;repeat' with_reducible first|exact m.o|refine LQ.al ?_ _|refine LQ.st ?_ _ (wQ _) _
section
variable {w:World} {p b G:Nat} {u v:Value} {s:St}
theorem rO(a:LQ w w p b G u v s):
 Calls prog 264 #[.pointer (some ⟨p,0,none⟩)] w fun e w'=>e=.returned (.agg #[.string (qArg s).1.1,.int .i64 (qArg s).1.2.1,.int .i64 (qArg s).1.2.2.1,.string (qArg s).1.2.2.2])/\LQ w w' p b G u v (qArg s).2:=by
 have A:=Aa a;have P:=a.ps.lt;have S:=a.lt;have c:=a.c0;have y:=Aa (fun W (d:LQ w W p b G u v s)=>Eh W b G s d.ps);have m:=Aa (fun W (d:LQ w W p b G u v (nmT s))=>Cj W b G (nmT s) 9 d.ps);have q:=Aa (fun W (d:LQ w W p b G u v (nK (nmT s) 9))=>Yn d.one);unfold qArg;generalize (Ay (nmT s) 9).k=T at*;generalize (Ay (nmT s) 9).n=U at*;generalize (Ay (nmT s) 9).s=V at*;have D:=Aa (nK.eq_1 (nmT s) 9);generalize nK (nmT s) 9=I at*;generalize qVal I=f at*;obtain⟨f,X⟩:=f;simp only[]at q⊢;generalize nmT s=s1 at*;generalize nm s=n at*;rw[<-D.o]at m;clear a;go_enter func264,ntmps264;go_wp2_with fail;refine(y.o _ (A.o.al _)).mono ?_;rintro _ w1 ⟨rfl,r,x⟩;have g:=Aa ((A.o.al _).call r x);have z:=Aa (x.at (wX w _) (by omega));have B:=Ab z.o;have c1:=g.o.c0;have Q:=g.o.lt;have L:=r.lt;clear r x y;go_wp2_with fail;refine(m.o _ (g.o.al _)).mono ?_;rintro _ w2 ⟨rfl,t,k2⟩;have h:=Aa ((g.o.al _).call t k2);have E:=Aa (k2.at ((AJ w1 _ _ B).trans z.o) (by omega));have C:=Aa (k2.at (wX w1 _) (by omega));have c2:=h.o.c0;have R:=h.o.lt;have M:=t.lt;clear t k2 m;go_wp2_with fail;refine(q.o _ h.o).mono ?_;rintro _ w3 ⟨rfl,l⟩;have j:=l.kp.at E.o (by omega);have i:=l.kp.at C.o (by omega);have c3:=Ac j;have J:=Ak j;have N:=Ab j;have c4:=Ac i;have K:=Ak i;have O:=Ab i;have F:=Aa (h.o.tr l);have H:w.heap.size<=w1.heap.size:=Nat.le_of_lt B;clear l j i q;go_wp2;refine bodyPost_ret (v:=.agg #[.string n,.int .i64 f.1,.int .i64 f.2.1,.string f.2.2]) (by simp[results,results264,go_sem, *]) rfl ⟨rfl,?_⟩;repeat' with_reducible first|exact F.o|refine LQ.al ?_ _|refine LQ.st ?_ _ (wQ _) _|refine LQ.st ?_ _ H _
theorem Xo{a b c d:Value}(f:a.oneCell'=true)(g:b.oneCell'=true)(h:c.oneCell'=true)(i:d.oneCell'=true):∀u∈[a,b,c,d],u.oneCell'=true:=by
 intro u e;simp at e;rcases e with rfl|rfl|rfl|rfl<;>assumption
theorem infoArg:(prog.info? 236).map (fun i=>(i.zero,i.size,i.bytes))=some (some (.agg #[.string ⟨#[]⟩,.int .i64 0,.int .i64 0,.string ⟨#[]⟩]),4,48):=by kernel_rfl
theorem rP(r:LQ w w p b G u v s):
 Calls prog 243 #[.pointer (some ⟨p,0,none⟩)] w fun e w'=>∃x,e=.returned x/\w'.ownsRow w.heap.size 236 4 x (qArgs s).1.length ((qArgs s).1.flatMap aL)/\(qArgs s).1.length<=802/\LQ w w' p b G u v (qArgs s).2:=by
 obtain⟨ar,aj,ao,ap,aq⟩:=info_parts infoArg;have O:=Aa r;have aD:=r.lt;have c:=r.c0;have t:=Aa (fun W a (I:LQ w W p b G u v a)=>rO I.one);have B:=Aa (t.o · s);have N:=Aa (qArgs.eq_1 s);have V:ln (qArg s).2<=801:=wV (Pr s) (wV (Bg s) r.ps.len);clear r;generalize qArgs s=ab at*;generalize qArg s=ah at*;obtain⟨⟨F,D,E,at_⟩,l⟩:=ah;simp only[]at B V;go_enter func243,ntmps243;go_wp2_with fail;refine(B.o _ O.o).mono ?_;rintro _ w2 ⟨rfl,Z⟩;have C:=Aa (O.o.tr Z);clear Z B;go_wp2;go_loopg [3] (ln l) (fun k x wr=>∃(g:List Es) (a:St) (f:Nat),ln a<=k/\ln a<=f/\LQ w wr p b G u v a/\wr.ownsRow w.heap.size 236 4 x g.length (g.flatMap aL)/\g.length+ln a<=802/\(((F,D,E,at_):Es)::(qArgsF 801 l).1,(qArgsF 801 l).2)=(g++(qArgsF f a).1,(qArgsF f a).2))
 case atStart=>
  refine⟨[(F,D,E,at_)],l,801,wQ _,V,C.o.al _,?_,by simp;omega,rfl⟩;exact⟨rfl,Or.inr ⟨w2.heap.size,1,_,rfl,C.o.kp.size,wX w2 _,wQ _,by decide,rfl,rfl⟩⟩
 case round=>
  obtain⟨g,a,f,az,ay,q,J,ax,hrel⟩:=hrel;obtain⟨au,aw,rfl⟩:=An J;have y:=Aa hrel;have Q:=Aa q;have M:=Aa J;have c4:=q.c0;have aB:=q.lt;have A:=Aa (Hg wr b G a 1 q.ps);clear q J hrel C;cases i:Ae a 1
  ·rw[i]at A
   have j:=Aa (show ab=(g,nK a 8)from by
    have:=y.o;rw[qY f a i]at this;simp only[Prod.mk.injEq,List.append_nil]at this;rw[N.o];rw[this.1,this.2])
   have ae:=Aa (fun W (I:LQ w W p b G u v a)=>Cj W b G a 8 I.ps);generalize (Ay a 8).k=mk at*;generalize (Ay a 8).n=aE at*;generalize (Ay a 8).s=aF at*;clear i y N t;go_wp2_with fail;refine A.o.mono ?_;rintro _ w5 ⟨rfl,h⟩;have d:=Aa (Q.o.be h);have av:=d.o.c0;have aC:=d.o.lt;have z:=Aa (AT M.o h);clear h;go_wp2_with fail;refine(ae.o _ d.o).mono ?_;rintro _ w6 ⟨rfl,ai,Y⟩;go_wp2;go_ret;exact⟨_,rfl,by rw[j.o];exact d.o.own Y z.o (wQ _),by rw[j.o];show g.length<=802;omega,by rw[j.o];exact d.o.call ai Y⟩
  ·rw[i]at A
   have aA:=Li a i;have am:=Pr a;obtain⟨m,rfl⟩:∃m,f=m+1:=⟨f-1,by omega⟩;have j:=Aa (show(((F,D,E,at_):Es)::(qArgsF 801 l).1,(qArgsF 801 l).2)=(g++((qArg a).1::(qArgsF m (qArg a).2).1),(qArgsF m (qArg a).2).2)from by
    rw[y.o,qArgsF,xH i])
   have L:=Aa (t.o · a);clear i y t;generalize qArg a=f1 at*;obtain⟨⟨S,gk,R,T⟩,aa⟩:=f1;simp only[]at L j am;go_wp2_with fail;refine A.o.mono ?_;rintro _ w5 ⟨rfl,h⟩;have d:=Aa (Q.o.be h);have z:=Aa (AT M.o h);clear h;go_wp2_with fail;refine(L.o _ d.o).mono ?_;rintro _ w6 ⟨rfl,K⟩;have H:=d.o.own K.kp z.o (wQ _);have P:=Aa (d.o.tr K);have aG:=P.o.kp.size;have ad:=Aa (fun k ak=>(H.lt k ak).1);clear K z d;go_wp2_with (at_builtin;refine wpList_append_own _ rfl _ _ 226 rfl w.heap.size 236 ar _ 4 48 underlying226 aj ao ap aq rfl (by decide) _ _ _ rfl (H.alloc _) ⟨w6.heap.size,0,none⟩ 1 1 [.string S,.int .i64 gk,.int .i64 R,.string T] rfl rfl (Cz _ _ _ _ (by simp)) (Xo rfl rfl rfl rfl) (by unfold maxLen;omega) (by omega) (by simp;omega) ?_;intro v' w7 X U _);have ag:=Aa ((P.o.al _).gr U ad.o);have af:=Aa X;clear X U H;go_roundg (ln aa)
   case measure=>omega
   case rel=>
    refine⟨g++[(S,gk,R,T)],aa,m,wQ _,by omega,ag.o,by rw[List.flatMap_append,xJ];exact af.o,by simp;omega,by rw[j.o];simp⟩
end
section
variable {w:World} {p b G:Nat} {u v:Value} {s:St}
theorem rQ(z:LQ w w p b G u v s):
 Calls prog 244 #[.pointer (some ⟨p,0,none⟩)] w fun e w'=>e=.returned (.agg #[.int .i64 (qCond s).1.1,.int .i64 (qCond s).1.2.1,.int .i64 (qCond s).1.2.2.1,.string (qCond s).1.2.2.2])/\LQ w w' p b G u v (qCond s).2:=by
 have ao:=Aa z;have aT:=z.ps.lt;have a0:=z.lt;have c:=z.c0;have aa:=Aa (fun W (d:LQ w W p b G u v s)=>Eh W b G s d.ps);have ab:=Aa (fun W (d:LQ w W p b G u v (nmT s))=>Gc W b G (nmT s) d.ps);have f:=Aa (xZ (SA.eq_1 (nm s)) (Lr.eq_1 s));unfold qCond Sz;generalize Lr s=i at*;generalize SA (nm s)=S at*;have ad:=Aa (fun W (d:LQ w W p b G u v i)=>(show Calls prog _ _ W (fun e w'=>_/\PS w' b G (nK i 7)/\_)from Cj W b G i 7 d.ps));generalize nK i 7=N at*;have af:=Aa (fun W (d:LQ w W p b G u v N)=>(show Calls prog _ _ W (fun e w'=>_/\PS w' b G (nW N Na)/\_)from Pw W b G N Na d.ps));generalize nW N Na=m at*;have ae:=Aa (fun W (d:LQ w W p b G u v m)=>(show Calls prog _ _ W (fun e w'=>_/\PS w' b G (nK m 9)/\_)from Cj W b G m 9 d.ps));generalize nK m 9=ax at*;have O:=Aa (fun W (d:LQ w W p b G u v ax)=>Yn d.one);generalize qVal ax=a at*;obtain⟨a,q⟩:=a;simp only[]at O⊢;have ay:=Aa (fun W (d:LQ w W p b G u v q)=>(show Calls prog _ _ W (fun e w'=>_/\PS w' b G (nK q 8)/\_)from Cj W b G q 8 d.ps));generalize nK q 8=ba at*;generalize (Ay i 7).k=a1 at*;generalize (Ay i 7).n=a4 at*;generalize (Ay i 7).s=a7 at*;generalize (Ay m 9).k=a2 at*;generalize (Ay m 9).n=a5 at*;generalize (Ay m 9).s=a8 at*;generalize (Ay q 8).k=a3 at*;generalize (Ay q 8).n=a6 at*;generalize (Ay q 8).s=a9 at*;have P:=BX (nm s) [115,107,105,112];have Q:=BX (nm s) [105,110,99,108,117,100,101];generalize nm s=n at*;generalize nmT s=s1 at*;clear z;go_enter func244,ntmps244;go_wp2_with fail;refine(aa.o _ ((ao.o.al _).al _)).mono ?_;rintro _ w1 ⟨rfl,T,F⟩;have l:=Aa (((ao.o.al _).al _).call T F);have B:=Aa (show w1.heap[w.heap.size]?=some (.cells #[.int .i64 0,.int .i64 0,.int .i64 0,.string ⟨#[]⟩] 238 (0,0))from F.at ((AJ _ _ _ (by simp)).trans (wX w _)) (by omega));have j:=Aa (show w1.heap[w.heap.size+1]?=some (.cells #[.int .i64 0,.int .i64 0,.int .i64 0,.string ⟨#[]⟩] 238 (0,0))from F.at (by have:=wX (w.alloc (.cells #[.int .i64 0,.int .i64 0,.int .i64 0,.string ⟨#[]⟩] 238)) (.cells #[.int .i64 0,.int .i64 0,.int .i64 0,.string ⟨#[]⟩] 238);simpa using this) (by omega));have c1:=l.o.c0;have aU:=l.o.lt;have aO:=T.lt;have aP:=Ab j.o;have aD:=Ac j.o;have aF:=Ak j.o;clear T F aa
 go_upto_block 0 with fail
 go_cut [] (fun wc=>LQ w wc p b G u v i/\wc.heap[w.heap.size]?=some (.cells #[.int .i64 0,.int .i64 0,.int .i64 0,.string ⟨#[]⟩] 238 (0,0))/\wc.heap[w.heap.size+1]?=some (.cells #[.int .i64 S,.int .i64 0,.int .i64 0,.string ⟨#[]⟩] 238 (0,0)))
 case first=>
  by_cases g:n=QV
  ·rw[xH g,xH g]at f
   rw[xM (show n=Az [115,107,105,112]from g)]at P;clear g;go_wp2;go_meet;rw[f.o.1,f.o.2];exact⟨l.o.st _ (Nat.le_succ _) _,(xC _ _ _ _ (by simp)).trans B.o,AI j.o 0 _⟩
  rw[xG g,xG g]at f;rw[wY (show¬n=Az [115,107,105,112]from g)]at P;by_cases h:n=QQ
  ·rw[xH h,xH h]at f
   rw[xM (show n=Az [105,110,99,108,117,100,101]from h)]at Q;clear g h;go_wp2;go_meet;rw[f.o.1,f.o.2];exact⟨l.o.st _ (Nat.le_succ _) _,(xC _ _ _ _ (by simp)).trans B.o,AI j.o 0 _⟩
  rw[xG h,xG h]at f;rw[wY (show¬n=Az [105,110,99,108,117,100,101]from h)]at Q;clear g h;go_wp2_with fail;refine(ab.o _ l.o).mono ?_;rintro _ w2 ⟨rfl,aH,k2⟩;go_wp2;go_meet;rw[f.o.1,f.o.2];exact⟨l.o.call aH k2,k2.at B.o (by omega),k2.at j.o (by omega)⟩
 case rest=>
  obtain⟨L,aw,av⟩:=hcut;have c2:=L.c0;have aV:=L.lt;have R:=Aa L;have ag:=Aa aw;have U:=Aa av;clear L aw av f P Q ab B j l c1 aD aF;go_wp2_with fail;refine(ad.o _ R.o).mono ?_;rintro _ w3 ⟨rfl,ap,H⟩;have r:=Aa (R.o.call ap H);have ah:=Aa (H.at ag.o (by omega));have V:=Aa (H.at U.o (by omega));have c3:=r.o.c0;have aW:=r.o.lt;clear ap H ad ag U R c2;go_wp2_with fail;refine(af.o _ r.o).mono ?_;rintro _ w4 ⟨rfl,aq,I⟩;have t:=Aa (r.o.call aq I);have ai:=Aa (I.at ah.o (by omega));have X:=Aa (I.at V.o (by omega));have c4:=t.o.c0;have aX:=t.o.lt;clear aq I af ah V r c3;go_wp2_with fail;refine(ae.o _ t.o).mono ?_;rintro _ w5 ⟨rfl,ar,J⟩;have x:=Aa (t.o.call ar J);have aj:=Aa (J.at ai.o (by omega));have Y:=Aa (J.at X.o (by omega));have aA:=x.o.c0;have aY:=x.o.lt;clear ar J ae ai X t c4;go_wp2_with fail;refine(O.o _ x.o).mono ?_;rintro _ w6 ⟨rfl,M⟩;have A:=M.kp.at Y.o (by omega);have ak:=Aa (M.kp.at aj.o (by omega));have C:=Aa (x.o.tr M);have aE:=Ac A;have aG:=Ak A;have aQ:=Ab A;have aB:=C.o.c0;have aI:=C.o.lt;have Z:=Aa (show((((w6.setCell ⟨w.heap.size+1,1,none⟩ (.int .i64 a.1)).setCell ⟨w.heap.size+1,2,none⟩ (.int .i64 a.2.1)).setCell ⟨w.heap.size+1,3,none⟩ (.string a.2.2)).heap[w.heap.size+1]?=some (.cells #[.int .i64 S,.int .i64 a.1,.int .i64 a.2.1,.string a.2.2] 238 (0,0)))from AI (AI (AI A 1 _) 2 _) 3 _);clear M O aj Y x aA A;go_wp2_with fail;have y:=Aa (((C.o.st ⟨w.heap.size+1,1,none⟩ (Nat.le_succ _) (.int .i64 a.1)).st ⟨w.heap.size+1,2,none⟩ (Nat.le_succ _) (.int .i64 a.2.1)).st ⟨w.heap.size+1,3,none⟩ (Nat.le_succ _) (.string a.2.2));have am:=Aa (show(((w6.setCell ⟨w.heap.size+1,1,none⟩ (.int .i64 a.1)).setCell ⟨w.heap.size+1,2,none⟩ (.int .i64 a.2.1)).setCell ⟨w.heap.size+1,3,none⟩ (.string a.2.2)).heap[w.heap.size]?=some (.cells #[.int .i64 0,.int .i64 0,.int .i64 0,.string ⟨#[]⟩] 238 (0,0))from(xC _ _ _ _ (by simp)).trans ((xC _ _ _ _ (by simp)).trans ((xC _ _ _ _ (by simp)).trans ak.o)));generalize ((w6.setCell ⟨w.heap.size+1,1,none⟩ (.int .i64 a.1)).setCell ⟨w.heap.size+1,2,none⟩ (.int .i64 a.2.1)).setCell ⟨w.heap.size+1,3,none⟩ (.string a.2.2)=aJ at*;clear aE aG ak C aB aI;have aC:=y.o.c0;have aZ:=y.o.lt;go_wp2_with fail;refine(ay.o _ y.o).mono ?_;rintro _ w8 ⟨rfl,au,K⟩;have az:=Aa (y.o.call au K);have E:=K.at am.o (by omega);have D:=K.at Z.o (by omega);have aK:=Ac D;have aM:=Ak D;have aR:=Ab D;have aL:=Ac E;have aN:=Ak E;have aS:=Ab E;clear au K E D y am Z aC;go_wp2;refine bodyPost_ret (v:=.agg #[.int .i64 S,.int .i64 a.1,.int .i64 a.2.1,.string a.2.2]) (by simp[results,results244,go_sem, *]) rfl ⟨rfl,?_⟩;repeat' with_reducible first|exact az.o|refine LQ.al ?_ _|refine LQ.st ?_ _ (wQ _) _
theorem infoCond:(prog.info? 238).map (fun i=>(i.zero,i.size,i.bytes))=some (some (.agg #[.int .i64 0,.int .i64 0,.int .i64 0,.string ⟨#[]⟩]),4,40):=by kernel_rfl
theorem SG(n:LQ w w p b G u v s):
 Calls prog 206 #[.pointer (some ⟨p,0,none⟩)] w fun e w'=>∃x,e=.returned x/\w'.ownsRow w.heap.size 238 4 x (qConds 801 s).1.length ((qConds 801 s).1.flatMap cL)/\(qConds 801 s).1.length<=802/\LQ w w' p b G u v (qConds 801 s).2:=by
 obtain⟨ae,V,aa,ab,ad⟩:=info_parts infoCond;have S:=Aa n;have ao:=n.lt;have c:=n.c0;have A:=Aa (fun W a (U:LQ w W p b G u v a)=>rQ U.one);have Y:ln s<=801:=n.ps.len;clear n;obtain⟨l,B⟩:∃l,Hi (qConds 801 s=l):=⟨_,Aa rfl⟩;rw[B.o];go_enter func206,ntmps206;go_wp2;go_loopg [3] (ln s) (fun k x wr=>∃(d:List Hm) (a:St) (f:Nat),ln a<=k/\ln a<=f/\LQ w wr p b G u v a/\wr.ownsRow w.heap.size 238 4 x d.length (d.flatMap cL)/\d.length+ln a<=802/\l=(d++(qConds f a).1,(qConds f a).2))
 case atStart=>exact⟨[],s,801,wQ _,Y,S.o,xF _ _ _ _,by simp;omega,B.o.symm⟩
 case round=>
  obtain⟨d,a,f,aj,ai,q,D,ah,hrel⟩:=hrel;obtain⟨af,ag,rfl⟩:=An D;have r:=Aa hrel;have y:=Aa q;have H:=Aa D;have c4:=q.c0;have am:=q.lt;have i:=Aa (EG wr b G a 11 q.ps);clear q D hrel;cases g:Ae a 11
  ·rw[g]at i
   have h:=Aa (show l=(d,a)from by
    rw[r.o,XT f a g];simp)
   clear g r B A;go_wp2_with fail;refine i.o.mono ?_;rintro _ w5 ⟨rfl,z,j⟩;go_wp2;go_ret;exact⟨_,rfl,by rw[h.o];exact y.o.own j H.o (wQ _),by rw[h.o];show d.length<=802;omega,by rw[h.o];exact y.o.call z j⟩
  ·rw[g]at i
   have ak:=ET a 11 (by decide) g;have Z:=Ww (tl a);obtain⟨m,rfl⟩:∃m,f=m+1:=⟨f-1,by omega⟩;have h:=Aa (show l=(d++((qCond (tl a)).1::(qConds m (qCond (tl a)).2).1),(qConds m (qCond (tl a)).2).2)from by
    rw[r.o,qConds,xH g])
   have F:=Aa (A.o · (tl a));have i:=Aa (show Calls prog 153 #[.pointer (some ⟨b,0,none⟩),.int .i64 11] wr (fun e w'=>e=.returned (.bool true)/\PS w' b G (tl a)/\Ag b wr w')from i.o);clear g r A;generalize qCond (tl a)=f1 at*;generalize tl a=ap at*;obtain⟨⟨L,gk,K,M⟩,P⟩:=f1;simp only[]at F h Z;go_wp2_with fail;refine i.o.mono ?_;rintro _ w5 ⟨rfl,z,j⟩;have t:=Aa (y.o.call z j);have I:=Aa (y.o.own j H.o (wQ _));clear z j;go_wp2_with fail;refine(F.o _ t.o).mono ?_;rintro _ w6 ⟨rfl,E⟩;have C:=t.o.own E.kp I.o (wQ _);have J:=Aa (t.o.tr E);have aq:=J.o.kp.size;have Q:=Aa (fun k X=>(C.lt k X).1);clear E I t;go_wp2_with (at_builtin;refine wpList_append_own _ rfl _ _ 227 rfl w.heap.size 238 ae _ 4 40 underlying227 V aa ab ad rfl (by decide) _ _ _ rfl (C.alloc _) ⟨w6.heap.size,0,none⟩ 1 1 [.int .i64 L,.int .i64 gk,.int .i64 K,.string M] rfl rfl (Cz _ _ _ _ (by simp)) (Xo rfl rfl rfl rfl) (by unfold maxLen;omega) (by omega) (by simp;omega) ?_;intro v' w7 O N _);have T:=Aa ((J.o.al _).gr N Q.o);have R:=Aa O;clear O N C;go_roundg (ln P)
   case measure=>omega
   case rel=>
    refine⟨d++[(L,gk,K,M)],P,m,wQ _,by omega,T.o,by rw[List.flatMap_append,xJ];exact R.o,by simp;omega,by rw[h.o];simp⟩
end
def MD(x:Eb):List Value:=[.string x.name,.string x.scalar,.bool x.strict,.bool x.has,.int .i64 x.dflt.1,.int .i64 x.dflt.2.1,.string x.dflt.2.2]
def Th(x:Eb):Value:=.agg #[.string x.name,.string x.scalar,.bool x.strict,.bool x.has,.int .i64 x.dflt.1,.int .i64 x.dflt.2.1,.string x.dflt.2.2]
section
variable {w:World} {p b G:Nat} {u v:Value} {s:St}
theorem sB(r:LQ w w p b G u v s):
 Calls prog 154 #[.pointer (some ⟨p,0,none⟩)] w fun e w'=>e=.returned (Th (CW s).1)/\LQ w w' p b G u v (CW s).2:=by
 have U:=Aa r;have ba:=r.ps.lt;have bb:=r.lt;have c:=r.c0;have h:=Aa (CW.eq_1 s);generalize CW s=aa at*;have ah:=Aa (fun W (a:LQ w W p b G u v s)=>(show Calls prog _ _ W (fun e w'=>_/\PS w' b G (nK s 6)/\_)from Cj W b G s 6 a.ps));generalize nK s 6=s1 at*;have af:=Aa (fun W (a:LQ w W p b G u v s1)=>Eh W b G s1 a.ps);generalize nm s1=L at*;generalize nmT s1=f at*;have ai:=Aa (fun W (a:LQ w W p b G u v f)=>(show Calls prog _ _ W (fun e w'=>_/\PS w' b G (nK f 9)/\_)from Cj W b G f 9 a.ps));generalize nK f 9=Q at*;have ag:=Aa (fun W (a:LQ w W p b G u v Q)=>Eh W b G Q a.ps);generalize nm Q=d at*;generalize nmT Q=z at*;have aj:=Aa (fun W (a:LQ w W p b G u v z)=>EG W b G z 5 a.ps);generalize mayT z (Ae z 5)=A at*;generalize Ae z 5=strict at*;have ak:=Aa (fun W (a:LQ w W p b G u v A)=>EG W b G A 10 a.ps);generalize mayT A (Ae A 10)=B at*;generalize Ae A 10=has at*;have am:=Aa (fun W (a:LQ w W p b G u v B)=>Ok W b G B a.ps);generalize valK B=R at*;generalize pVal B=aT at*;generalize (Ay s 6).k=bc at*;generalize (Ay s 6).n=bf at*;generalize (Ay s 6).s=bh at*;generalize (Ay f 9).k=bd at*;generalize (Ay f 9).n=bg at*;generalize (Ay f 9).s=bi at*;clear r;go_enter func154,ntmps154;go_wp2_with fail;refine(ah.o _ (U.o.al _)).mono ?_;rintro _ w1 ⟨rfl,ar,Z⟩;have l:=Aa ((U.o.al _).call ar Z);have S:=Aa (Z.at (wX w _) (by omega));have aJ:=Ab S.o;have c1:=l.o.c0;have aN:=l.o.lt;clear ar Z ah U;go_wp2_with fail;refine(af.o _ l.o).mono ?_;rintro _ w2 ⟨rfl,Y,k2⟩;have m:=Aa (l.o.call Y k2);have T:=Aa (k2.at S.o (by omega));have ay:=Ab T.o;have c2:=m.o.c0;have aO:=m.o.lt;have a5:=Y.lt;have F:w.heap.size<=w2.heap.size:=Nat.le_of_lt ay;clear Y k2 af l S c1 aN aJ;go_wp2_with fail;refine(ai.o _ (m.o.al _)).mono ?_;rintro _ w3 ⟨rfl,au,H⟩;have q:=Aa ((m.o.al _).call au H);have ao:=Aa (H.at ((AJ w2 _ _ ay).trans T.o) (by omega));have ab:=Aa (H.at (wX w2 _) (by omega));have c3:=q.o.c0;have aP:=q.o.lt;clear au H ai m T c2 aO;go_wp2_with fail;refine(ag.o _ q.o).mono ?_;rintro _ w4 ⟨rfl,av,I⟩;have M:=q.o.call av I;have t:=I.at ab.o (by omega);have ap:=Aa (Ed (i:=1) (I.at ao.o (by omega)) (show w.heap.size≠w2.heap.size by omega) (.string d));have ad:=Aa (AI t 1 (.string d));have V:=Aa (M.st ⟨w2.heap.size,1,none⟩ F (.string d));have aD:=Ac t;have aG:=Ak t;have aK:=Ab t;have c4:=M.c0;have aQ:=M.lt;clear av I ag q ao ab c3 aP t M;go_wp2_with fail;generalize w4.setCell ⟨w2.heap.size,1,none⟩ (.string d)=aU at*;clear aD aG aK c4 aQ;refine(aj.o _ V.o).mono ?_;rintro _ w5 ⟨rfl,aw,J⟩;have N:=V.o.call aw J;have x:=J.at ad.o (by omega);have aq:=Aa (Ed (i:=2) (J.at ap.o (by omega)) (show w.heap.size≠w2.heap.size by omega) (.bool strict));have ae:=Aa (AI x 2 (.bool strict));have X:=Aa (N.st ⟨w2.heap.size,2,none⟩ F (.bool strict));have aE:=Ac x;have aH:=Ak x;have aL:=Ab x;have aB:=N.c0;have aR:=N.lt;clear aw J aj V ap ad x N;go_wp2_with fail;generalize w5.setCell ⟨w2.heap.size,2,none⟩ (.bool strict)=aV at*;clear aE aH aL aB aR;refine(ak.o _ X.o).mono ?_;rintro _ w6 ⟨rfl,ax,K⟩;have O:=X.o.call ax K;have y:=K.at ae.o (by omega);have j:=Aa (Ed (i:=3) (K.at aq.o (by omega)) (show w.heap.size≠w2.heap.size by omega) (.bool has));have g:=Aa (AI y 3 (.bool has));have C:=Aa (O.st ⟨w2.heap.size,3,none⟩ F (.bool has));have aF:=Ac y;have aI:=Ak y;have aM:=Ab y;have aC:=O.c0;have aS:=O.lt;clear ax K ak X aq ae y O;cases has
 ·have h:=Aa (show aa=(⟨L,d,strict,false,(0,0,⟨#[]⟩)⟩,B)from h.o)
  have aZ:=Ac j.o;have a3:=Ak j.o;have a8:=Ab j.o;have aX:=Ac g.o;have a1:=Ak g.o;have a6:=Ab g.o;go_wp2_with fail;rw[h.o];refine bodyPost_ret (v:=.agg #[.string L,.string d,.bool strict,.bool false,.int .i64 0,.int .i64 0,.string ⟨#[]⟩]) (by simp[results,results154,go_sem, *]) rfl ⟨rfl,?_⟩;repeat' with_reducible first|exact C.o|refine LQ.al ?_ _|refine LQ.st ?_ _ (wQ _) _
 ·have az:=Aa (show aa=(⟨L,d,strict,true,R⟩,aT)from h.o)
  clear h;go_wp2_with fail;generalize w6.setCell ⟨w2.heap.size,3,none⟩ (.bool true)=aW at*;clear aF aI aM aC aS;refine(am.o _ C.o).mono ?_;rintro _ w7 ⟨rfl,P⟩;have D:=P.kp.at g.o (by omega);have E:=P.kp.at j.o (by omega);have aA:=Aa (C.o.kt P);have aY:=Ac D;have a2:=Ak D;have a7:=Ab D;have a0:=Ac E;have a4:=Ak E;have a9:=Ab E;clear P am C g j D E;go_wp2_with fail;rw[az.o];refine bodyPost_ret (v:=.agg #[.string L,.string d,.bool strict,.bool true,.int .i64 R.1,.int .i64 R.2.1,.string R.2.2]) (by simp[results,results154,go_sem, *]) rfl ⟨rfl,?_⟩;repeat' with_reducible first|exact aA.o|refine LQ.al ?_ _|refine LQ.st ?_ _ (wQ _) _|refine LQ.st ?_ _ F _
end
abbrev kQ:List TypeId:=[215,171,112,120]
abbrev VH:List TypeId:=[215,174,171,112,120]
def pV(k:Nat):Value:=.pointer (some ⟨k,0,none⟩)
structure QS(X:World)(B0 p b q G:Nat)(s:St)(d:Nat)(vO vF:Value)(ps:List Nat):Prop where
 rd:PS X b G s
 pa:X.heap[p]?=some (.cells #[.pointer (some ⟨b,0,none⟩),.pointer (some ⟨q,0,none⟩),.int .i64 d] 171 (0,0))
 qy:∃vP,X.heap[q]?=some (.cells #[vO,vF,vP] 112 (0,0))/\X.ownsRow B0 120 1 vP ps.length (ps.map pV)
 lb:B0<=b
 lp:B0<=p
 lq:B0<=q
def AA(B:Nat)(K:List TypeId)(X Y:World):Prop:=X.heap.size<=Y.heap.size/\∀(k:Nat) (cs:Array Value) (t:TypeId) (fr:Nat×Nat),B<=k->X.heap[k]?=some (.cells cs t fr)->t∈K->Y.heap[k]?=some (.cells cs t fr)
section
variable {w X Y Z:World} {B B0 B1 p b q G d N F n size:Nat} {s s':St} {vO vF v:Value} {ps:List Nat} {K:List TypeId} {T e:TypeId} {cs:Array Value} {fr:Nat×Nat} {xs:List Value}
theorem AA.below(a:yG X Y):AA B K X Y:=⟨a.size,fun k _ _ _ _ b _=>(a.block k (Ab b)).trans b⟩
theorem AA.alloc(o:Obj):AA B K X (X.alloc o):=.below ((wR _ _).alloc (wQ _) _)
theorem AA.drew:AA B K X X.drew:=⟨wQ _,fun _ _ _ _ _ a _=>a⟩
theorem AA.trans(a:AA B K X Y)(k:AA B K Y Z):AA B K X Z:=⟨wV a.1 k.1,fun i cs t fr hb c b=>k.2 i cs t fr hb (a.2 i cs t fr hb c b) b⟩
theorem AA.set(b:X.heap[N]?=some (.cells cs T fr))(c:T∉K)(i:Nat)(u:Value):AA B K X (X.setCell ⟨N,i,none⟩ u):=
 ⟨by simp[World.setCell],fun k f t g _ a d=>(xC _ _ _ _ (show k≠N from fun e=>by subst e;rw[b]at a;cases a;exact c d)).trans a⟩
theorem AA.setB(b:N<B)(i:Nat)(u:Value):AA B K X (X.setCell ⟨N,i,none⟩ u):=
 ⟨by simp[World.setCell],fun k _ _ _ hb a _=>(xC _ _ _ _ (show k≠N by omega)).trans a⟩
theorem AA.ft{K':List TypeId}(a:FT B0 K' X Y)(b:∀t∈K,t∉K'):AA B K X Y:=⟨a.size,fun _ _ t _ _ c d=>a.at c (b t d)⟩
theorem AA.keep(c:Ag b X Y)(hb:X.heap[b]?=some (.cells cs T fr))(d:T∉K):AA B K X Y:=
 ⟨c.size,fun k g t h _ a f=>(c.block k (Ab a) (fun e=>by subst e;rw[hb]at a;cases a;exact d f)).trans a⟩
theorem AA.keepB(a:Ag b X Y)(hb:b<B):AA B K X Y:=
 ⟨a.size,fun k _ _ _ d c _=>(a.block k (Ab c) (by omega)).trans c⟩
theorem AA.grown(b:X.grownBy Y v.ownBlock)(h:X.ownsRow B0 e size v n xs)(d:e∉K):AA B K X Y:=
 ⟨b.size,fun k cs t fr _ a i=>(b.block k (Ab a) (fun q=>by
  rcases h.2 with⟨y,_⟩|⟨g,cap,l,j,_,f,_⟩
  ·rw[y]at q;cases q
  ·rw[j]at q
   have c:k=g:=xD q;subst c;rw[f]at a;cases a;exact d i)).trans a⟩
theorem AA.own(d:AA B K X Y)(b:X.ownsRow B0 e size v n xs)(h:e∈K)(f:B<=B0):Y.ownsRow B0 e size v n xs:=by
 refine⟨b.1,?_⟩;rcases b.2 with q|⟨g,cap,c,j,a,i,r⟩
 ·exact Or.inl q
 ·exact Or.inr ⟨g,cap,c,j,a,d.2 g _ _ _ (wV f a) i h,r⟩
theorem PS.typ(a:PS X b G s)(d:AA 0 K X Y)(l:215∈K)(m:174∈K):PS Y b G s:=by
 obtain⟨v,f,c,g⟩:=a.st;refine⟨⟨v,d.2 _ _ _ _ (wZ _) f l,?_,g⟩,a.len,a.wf,xA a.glt d.1⟩;rcases c with c|⟨n,cap,e,h,i,j,k⟩
 ·exact Or.inl c
 ·exact Or.inr ⟨n,cap,e,h,i,d.2 _ _ _ _ (wZ _) j m,k⟩
theorem QS.typ(a:QS X B0 p b q G s d vO vF ps)(c:AA 0 VH X Y):QS Y B0 p b q G s d vO vF ps:=by
 obtain⟨g,e,f⟩:=a.qy;exact⟨a.rd.typ c (by decide) (by decide),c.2 _ _ _ _ (wZ _) a.pa (by decide),⟨g,c.2 _ _ _ _ (wZ _) e (by decide),c.own f (by decide) (wZ _)⟩,a.lb,a.lp,a.lq⟩
theorem QS.al(a:QS X B0 p b q G s d vO vF ps)(o:Obj):QS (X.alloc o) B0 p b q G s d vO vF ps:=a.typ (.alloc o)
theorem QS.dr(a:QS X B0 p b q G s d vO vF ps):QS X.drew B0 p b q G s d vO vF ps:=a.typ .drew
theorem QS.be(a:QS X B0 p b q G s d vO vF ps)(k:yG X Y):QS Y B0 p b q G s d vO vF ps:=a.typ (.below k)
theorem QS.st(a:QS X B0 p b q G s d vO vF ps)(c:X.heap[N]?=some (.cells cs T fr))(e:T∉VH)(i:Nat)(u:Value):QS (X.setCell ⟨N,i,none⟩ u) B0 p b q G s d vO vF ps:=a.typ (.set c e i u)
theorem QS.lq1(a:QS X B0 p b q G s d vO vF ps):LQ X X p b G (.pointer (some ⟨q,0,none⟩)) (.int .i64 d) s:=⟨a.rd.pk,a.pa,Ab a.pa⟩
theorem QS.call(a:QS X B0 p b q G s d vO vF ps)(i:PS Y b G s')(k:Ag b X Y):QS Y B0 p b q G s' d vO vF ps:=by
 obtain⟨c,h⟩:=a.rd.ty;obtain⟨j,f,g⟩:=a.qy;have e:AA 0 [171,112,120] X Y:=AA.keep k h (by decide);exact⟨i,e.2 _ _ _ _ (wZ _) a.pa (by decide),⟨j,e.2 _ _ _ _ (wZ _) f (by decide),e.own g (by decide) (wZ _)⟩,a.lb,a.lp,a.lq⟩
theorem QS.rdr(a:QS w B0 p b q G s d vO vF ps)(k:LQ w X p b G (.pointer (some ⟨q,0,none⟩)) (.int .i64 d) s'):QS X B0 p b q G s' d vO vF ps:=a.call k.ps k.kp
theorem QS.ft(a:QS w B0 p b q G s d vO vF ps)(k:Ag b w X)(f:B0<=w.heap.size):FT B0 kQ w X:=by
 obtain⟨c,e⟩:=a.rd.ty;exact FT.of_keep k e (by decide) a.lb f
theorem QS.lt(a:QS X B0 p b q G s d vO vF ps):B0<=X.heap.size:=Nat.le_of_lt (Nat.lt_of_le_of_lt a.lb a.rd.lt)
end
theorem FG{w:World}{B n s:Nat}{e:TypeId}{v:Value}{xs:List Value}(d:w.ownsRow B e s v n xs)(k:Nat)(b:v.ownBlock=some k):∃a,w.heap[k]?=some (.cells a e (0,0)):=by
 rcases d.2 with⟨rfl,_⟩|⟨g,c,a,rfl,_,f,_⟩
 ·simp[Value.ownBlock]at b
 ·simp[Value.ownBlock]at b;subst b;exact⟨a,f⟩
theorem By{w:World}{base size n F:Nat}{e T:TypeId}{v:Value}{xs:List Value}{cs:Array Value}{fr:Nat×Nat}(d:w.ownsRow base e size v n xs)(hF:w.heap[F]?=some (.cells cs T fr))(b:T≠e):v.ownBlock≠some F:=fun x=>by
 rcases d.2 with⟨y,_⟩|⟨g,cap,h,f,_,c,_⟩
 ·rw[y]at x;cases x
 ·rw[f]at x
  have a:g=F:=xD x;subst a;rw[c]at hF;cases hF;exact b rfl
def AO(pp:List Nat):Option Nat->Value
 |none=>.pointer none
 |some i=>.pointer (pp[i]?.map (fun k=>⟨k,0,none⟩))
abbrev SX:=As×Value×Value
def sL(pp:List Nat)(x:SX):List Value:=[.int .i64 x.1.kind,.string x.1.key,.string x.1.name,x.2.1,x.2.2,AO pp x.1.part]
structure DF(X:World)(B0:Nat)(n:Nat)(x:SX):Prop where
 a:X.ownsRow B0 236 4 x.2.1 x.1.args.length (x.1.args.flatMap aL)
 c:X.ownsRow B0 238 4 x.2.2 x.1.conds.length (x.1.conds.flatMap cL)
 al:x.1.args.length<=802
 cl:x.1.conds.length<=802
 p:∀i,x.1.part=some i->i<n
structure CQ(X:World)(B0:Nat)(pp:List Nat)(i:Nat)(P:Ai):Prop where
 ex:∃k vS,∃L:List SX,pp[i]?=some k/\X.heap[k]?=some (.cells #[.string P.typ,.int .i64 i,vS] 223 (0,0))/\B0<=k/\L.map Prod.fst=P.sels/\X.ownsRow B0 229 6 vS L.length (L.flatMap (sL pp))/\L.length<=1000/\∀x∈L,DF X B0 pp.length x
abbrev kP:List TypeId:=[223,229,236,238]
section
variable {X Y:World} {B0 B1 n m:Nat} {pp new:List Nat} {x:SX} {i:Nat} {P:Ai}
theorem DF.typ(b:DF X B0 n x)(d:AA B0 kP X Y)(f:n<=m):DF Y B0 m x:=⟨d.own b.a (by decide) (wQ _),d.own b.c (by decide) (wQ _),b.al,b.cl,fun i e=>xA (b.p i e) f⟩
theorem Sw(o:Option Nat)(a:∀i,o=some i->i<pp.length):AO (pp++new) o=AO pp o:=by
 cases o with
 |none=>rfl
 |some i=>simp[AO,xN (a i rfl)]
theorem tP(a:DF X B0 pp.length x):sL (pp++new) x=sL pp x:=by unfold sL;rw[Sw _ a.p]
theorem Rw{a:List SX}(b:∀x∈a,DF X B0 pp.length x):a.flatMap (sL (pp++new))=a.flatMap (sL pp):=by
 induction a with
 |nil=>rfl
 |cons x l d=>rw[List.flatMap_cons,List.flatMap_cons,tP (b x yB),d (fun y c=>b y (yA _ c))]
theorem CQ.typ(g:CQ X B0 pp i P)(c:AA B0 kP X Y):CQ Y B0 (pp++new) i P:=by
 obtain⟨k,q,f,b,h,d,j,l,m,e⟩:=g.ex;have n:i<pp.length:=by
  rcases Nat.lt_or_ge i pp.length with a|a
  ·exact a
  ·rw[List.getElem?_eq_none a]at b;cases b
 exact⟨k,q,f,by rw[xN n];exact b,c.2 _ _ _ _ d h (by decide),d,j,by rw[Rw e];exact c.own l (by decide) (wQ _),m,fun x p=>(e x p).typ c (by simp)⟩
theorem CQ.typ'(a:CQ X B0 pp i P)(b:AA B0 kP X Y):CQ Y B0 pp i P:=by
 have:=a.typ (new:=[]) b
 rwa [List.append_nil]at this
end
theorem DF.low{X:World}{B0 B1 n:Nat}{x:SX}(b:DF X B0 n x)(hb:B1<=B0):DF X B1 n x:=⟨FE b.a hb,FE b.c hb,b.al,b.cl,b.p⟩
theorem CQ.low{X:World}{B0 B1 i:Nat}{pp:List Nat}{P:Ai}(b:CQ X B0 pp i P)(hb:B1<=B0):CQ X B1 pp i P:=by
 obtain⟨k,m,a,c,d,e,f,g,h,j⟩:=b.ex;exact⟨k,m,a,c,d,wV hb e,f,FE g hb,h,fun x l=>(j x l).low hb⟩
def Bl(X:World)(B0:Nat)(pp:List Nat)(n:Nat)(Ps:List Ai):Prop:=∀j P,Ps[j]?=some P->CQ X B0 pp (n+j) P
theorem Bl.typ{X Y:World}{B0 n:Nat}{pp new:List Nat}{Ps:List Ai}(a:Bl X B0 pp n Ps)(b:AA B0 kP X Y):Bl Y B0 (pp++new) n Ps:=fun j P c=>(a j P c).typ b
theorem Bl.typ'{X Y:World}{B0 n:Nat}{pp:List Nat}{Ps:List Ai}(a:Bl X B0 pp n Ps)(b:AA B0 kP X Y):Bl Y B0 pp n Ps:=fun j P c=>(a j P c).typ' b
theorem Bl.low{X:World}{B0 B1 n:Nat}{pp:List Nat}{Ps:List Ai}(a:Bl X B0 pp n Ps)(hb:B1<=B0):Bl X B1 pp n Ps:=fun j P b=>(a j P b).low hb
theorem Bl.nil{X:World}{B0 n:Nat}{pp:List Nat}:Bl X B0 pp n []:=fun j P a=>by simp at a
theorem Bl.app{X:World}{B0 n:Nat}{pp:List Nat}{Ps c:List Ai}(d:Bl X B0 pp n Ps)(k:Bl X B0 pp (n+Ps.length) c):Bl X B0 pp n (Ps++c):=fun j P b=>by
 rcases Nat.lt_or_ge j Ps.length with a|a
 ·rw[xN a]at b;exact d j P b
 ·rw[xO a]at b
  have:=k _ P b
  rwa [show n+Ps.length+(j-Ps.length)=n+j by omega]at this
theorem Bl.cons{X:World}{B0 n:Nat}{pp:List Nat}{P:Ai}{b:List Ai}(c:CQ X B0 pp n P)(k:Bl X B0 pp (n+1) b):Bl X B0 pp n (P::b):=Bl.app (Ps:=[P]) (fun j d a=>by
 cases j with
 |zero=>simp at a;subst a;exact c
 |succ j=>simp at a) k
def Oo(w:World)(B0 p b q G d:Nat)(vO vF:Value)(ps:List Nat)(typ:yF)(s:St)(r:List Ai×St):Prop:=
 QS w B0 p b q G s d vO vF ps->Calls prog 100 #[.pointer (some ⟨p,0,none⟩),.string typ] w fun e w'=>∃new k,e=.returned (pV k)/\(ps++new)[ps.length]?=some k/\new.length=r.1.length/\QS w' B0 p b q G r.2 d vO vF (ps++new)/\FT B0 kQ w w'/\Bl w' w.heap.size (ps++new) ps.length r.1
def Hp(w w':World)(B0 p b q G d:Nat)(vO vF:Value)(ps:List Nat)(r:As×List Ai×St)(e:Ending):Prop:=
 ∃new a c,e=.returned (.agg #[.int .i64 r.1.kind,.string r.1.key,.string r.1.name,a,c,AO (ps++new) r.1.part])/\new.length=r.2.1.length/\DF w' w.heap.size (ps++new).length (r.1,a,c)/\QS w' B0 p b q G r.2.2 d vO vF (ps++new)/\FT B0 kQ w w'/\Bl w' w.heap.size (ps++new) ps.length r.2.1
section
variable {w:World} {B0 p b q G d:Nat} {vO vF:Value} {ps:List Nat} {s:St}
theorem rR(part:Nat->yF->St->List Ai×St)(af:QS w B0 p b q G s d vO vF ps)(bo:∀W typ aG,ln aG<=ln (nmT s)->Ae aG 14=true->Oo W B0 p b q G d vO vF ps typ aG (part ps.length typ aG)):
 Calls prog 205 #[.pointer (some ⟨p,0,none⟩)] w fun e w'=>Hp w w' B0 p b q G d vO vF ps (IH part ps.length s) e:=by
 obtain⟨u,a2⟩:∃u:Value,u=.pointer (some ⟨q,0,none⟩):=⟨_,rfl⟩;obtain⟨v,a3⟩:∃v:Value,v=.int .i64 d:=⟨_,rfl⟩;have bl:=Aa (xZ a2 a3);have aD:LQ w w p b G u v s:=by rw[a2,a3];exact af.lq1
 have bh:=Aa af;have aN:=Aa bo;have aV:=Aa aD;have ce:=af.rd.lt;have cf:=aD.lt;have bn:=af.lt;have c:=aD.c0;have z:=Aa (IH.eq_1 part ps.length s);generalize IH part ps.length s=a5 at*;have a6:=Aa (fun W (C:LQ w W p b G u v s)=>Eh W b G s C.ps);have L:=Aa (Ex.eq_1 s);have bk:=Aa (fun W (C:LQ w W p b G u v (nmT s))=>EG W b G (nmT s) 9 C.ps);have bP:ln (Ex s).2<=ln (nmT s):=by
  rw[L.o];split
  ·exact wV (Bg _) (BI _)
  ·exact wQ _
 generalize Ex s=bI at*;obtain⟨g,l⟩:=bI;simp only[]at z bP;have y:=Aa (GB.eq_1 l);have bj:=Aa (fun W (C:LQ w W p b G u v l)=>EG W b G l 7 C.ps);have bQ:ln (GB l).2<=ln l:=by
  rw[y.o];split
  ·exact wV (Wu _) (BI _)
  ·exact wQ _
 generalize GB l=bG at*;obtain⟨args,V⟩:=bG;simp only[]at z bQ;have aK:=Aa (fun W (C:LQ w W p b G u v V)=>SG C.one);have bR:=Mp 801 V;generalize qConds 801 V=bH at*;obtain⟨f,J⟩:=bH;simp only[]at z aK bR;have bi:=Aa (fun W (C:LQ w W p b G u v J)=>Hg W b G J 14 C.ps);generalize nm s=m at*;generalize nmT s=s1 at*;clear af aD a2 a3 bo;go_enter func205,ntmps205;go_wp2_with fail;refine(a6.o _ (aV.o.al _)).mono ?_;rintro _ w1 ⟨rfl,aY,a4⟩;have ab:=Aa ((aV.o.al _).call aY a4);have aR:=Aa (a4.at (wX w _) (by omega));have bq:=Ab aR.o;have c1:=ab.o.c0;have bS:=ab.o.lt;have b9:=aY.lt;have aA:w.heap.size<=w1.heap.size:=Nat.le_of_lt bq;clear aY a4 a6 aV;go_wp2_with fail;refine(bk.o _ (ab.o.al _)).mono ?_;rintro _ w2 ⟨rfl,aZ,k2⟩;have t:=Aa ((ab.o.al _).call aZ k2);have aS:=Aa (k2.at ((AJ w1 _ _ bq).trans aR.o) (by omega));have O:=Aa (k2.at (wX w1 _) (by omega));have c2:=t.o.c0;have bT:=t.o.lt;have bJ:=aZ.lt;clear aZ k2 bk ab aR c1 bS
 go_upto_if 17 with fail
 go_cut [] (fun wc=>LQ w wc p b G u v l/\wc.heap[w.heap.size]?=some (.cells #[.int .i64 0,.string ⟨#[]⟩,.string ⟨#[]⟩,.slice none 0 0,.slice none 0 0,.pointer none] 229 (0,0))/\wc.heap[w1.heap.size]?=some (.cells #[.int .i64 0,.string m,.string g,.slice none 0 0,.slice none 0 0,.pointer none] 229 (0,0)))
 case first=>
  cases ae:Ae s1 9
  ·rw[ae]at t L
   obtain⟨R,S⟩:g=m/\l=s1:=by have:=L.o;simpa using this
   subst R S;go_wp2;go_meet;exact⟨t.o,aS.o,O.o⟩
  ·rw[ae]at t L
   obtain⟨R,S⟩:g=nm (tl s1)/\l=nmT (tl s1):=by have:=L.o;simpa using this
   have t:=Aa (show LQ w w2 p b G u v (tl s1)from t.o);have Z:=Aa (Eh w2 b G (tl s1) t.o.ps);rw[<-R,<-S]at Z;clear R S L;have b0:=Ac O.o;have b5:=Ak O.o;have ca:=Ab O.o;go_wp2_with fail;refine Z.o.mono ?_;rintro _ w3 ⟨rfl,bm,aB⟩;have ah:=aB.at O.o (by omega);have aq:=Aa (aB.at aS.o (by omega));have ad:=Aa (t.o.call bm aB);have ak:=Aa (AI ah 2 (.string g));have b1:=Ac ah;have b6:=Ak ah;have cb:=Ab ah;clear bm aB ah;go_wp2;go_meet;exact⟨ad.o.st _ aA _,Ed aq.o (by omega) _,ak.o⟩
 case rest=>
 obtain⟨aE,ai,ag⟩:=hcut;have ad:=Aa aE;have aq:=Aa ai;have ak:=Aa ag;have c3:=aE.c0;have bU:=aE.lt;clear aE ai ag L aS O t c2 bT bJ;go_wp2_with fail;refine(bj.o _ ad.o).mono ?_;rintro _ w4 ⟨rfl,a0,aC⟩;have n:=Aa (ad.o.call a0 aC);have aT:=Aa (aC.at aq.o (by omega));have P:=Aa (aC.at ak.o (by omega));have c4:=n.o.c0;have bV:=n.o.lt;have bK:=a0.lt;clear a0 aC bj ad aq ak c3 bU
 go_upto_if 28 with fail
 go_cut [] (fun aH=>∃aj,LQ w aH p b G u v V/\aH.heap[w.heap.size]?=some (.cells #[.int .i64 0,.string ⟨#[]⟩,.string ⟨#[]⟩,.slice none 0 0,.slice none 0 0,.pointer none] 229 (0,0))/\aH.heap[w1.heap.size]?=some (.cells #[.int .i64 0,.string m,.string g,aj,.slice none 0 0,.pointer none] 229 (0,0))/\aH.ownsRow w.heap.size 236 4 aj args.length (args.flatMap aL)/\args.length<=802)
 case first=>
  cases ae:Ae l 7
  ·rw[ae]at n y
   obtain⟨R,S⟩:args=[]/\V=l:=by have:=y.o;simpa using this
   subst R S;go_wp2;go_meet;exact⟨_,n.o,aT.o,P.o,xF _ _ _ _,by simp⟩
  ·rw[ae]at n y
   have n:=Aa (show LQ w w4 p b G u v (tl l)from n.o);have y:=Aa (show(args,V)=qArgs (tl l)from y.o);have Z:=Aa (rP n.o.one);rw[<-y.o]at Z;clear y;have b2:=Ac P.o;have b7:=Ak P.o;have cc:=Ab P.o;go_wp2_with fail;refine Z.o.mono ?_;rintro _ w5 ⟨aj,rfl,I,ax,N⟩;have T:=N.kp.at P.o (by omega);have ar:=Aa (N.kp.at aT.o (by omega));have D:=Aa (n.o.tr N);have am:=Aa (AI T 3 aj);have aa:=Aa (FE I n.o.kp.size);have bz:=Aa (By I T (by decide));have b3:=Ac T;have b8:=Ak T;have cd:=Ab T;obtain⟨E,F,rfl⟩:=An I;clear N T I;go_wp2;go_meet;exact⟨_,D.o.st _ aA _,Ed ar.o (by omega) _,am.o,Ds aa.o bz.o _ _,ax⟩
 case rest=>
 obtain⟨aj,N,ai,ag,I,ax⟩:=hcut;obtain⟨E,F,rfl⟩:=An I;have D:=Aa N;have ar:=Aa ai;have am:=Aa ag;have aa:=Aa I;clear N ai ag I y aT P n c4 bV bK;go_wp2_with fail;refine(aK.o _ D.o).mono ?_;rintro _ w6 ⟨cg,rfl,az,bp,U⟩;obtain⟨h,j,rfl⟩:=An az;have M:=U.kp.at am.o (by omega);have aJ:=Aa (AI M 4 (.slice h f.length j));have aU:=Aa (Ed (i:=4) (U.kp.at ar.o (by omega)) (show w.heap.size≠w1.heap.size by omega) (.slice h f.length j));have a9:=Aa (Ds (i:=4) (D.o.own U.kp aa.o (wQ _)) (By (D.o.own U.kp aa.o (wQ _)) M (by decide)) (.slice h f.length j));have bb:=Aa (Ds (i:=4) (FE az D.o.kp.size) (By az M (by decide)) (.slice h f.length j));have aF:=D.o.tr U;have aW:=Aa (aF.st ⟨w1.heap.size,4,none⟩ aA (.slice h f.length j));have bC:=Ac M;have bE:=Ak M;have bM:=Ab M;have bA:=aF.c0;have bW:=aF.lt;clear U M az aK D ar am aa aF;go_wp2_with fail;generalize w6.setCell ⟨w1.heap.size,4,none⟩ (.slice h f.length j)=bZ at*;clear bC bE bM bA bW;refine(bi.o _ aW.o).mono ?_;rintro _ w7 ⟨rfl,Q⟩;have aX:=Aa (aW.o.be Q);have X:=Aa ((Q.block _ (Ab aJ.o)).trans aJ.o);have r:=Aa ((Q.block _ (Ab aU.o)).trans aU.o);have ao:=Aa (AT a9.o Q);have ap:=Aa (AT bb.o Q);clear Q bi aW aJ aU a9 bb;have aQ:=Aa (show QS w7 B0 p b q G J d vO vF ps from bh.o.rdr (by have:=aX.o;rw[bl.o.1,bl.o.2]at this;exact this));have aM:=Aa (show FT B0 kQ w w7 from bh.o.ft aX.o.kp bn);clear aX;have a1:=bn;cases av:Ae J 14
 ·rw[av]at z
  have aP:=Aa (show a5=(⟨0,m,g,args,f,none⟩,[],J)from z.o);clear z aN;have aI:=Aa (fun Y (x:Ag w.heap.size w7 Y)=>(show Hp w Y B0 p b q G d vO vF ps (⟨0,m,g,args,f,none⟩,[],J) (.returned (.agg #[.int .i64 0,.string m,.string g,.slice E args.length F,.slice h f.length j,.pointer none]))from
   ⟨[],.slice E args.length F,.slice h f.length j,rfl,rfl,⟨(AA.keep (B:=0) (K:=[236]) x r.o (by decide)).own ao.o (by decide) (wZ _),(AA.keep (B:=0) (K:=[238]) x r.o (by decide)).own ap.o (by decide) (wZ _),ax,bp,fun i e=>by cases e⟩,by rw[List.append_nil];exact aQ.o.typ (AA.keep x r.o (by decide)),aM.o.kn x (wQ _) a1,Bl.nil⟩))
  have bB:=Ac X.o;have bD:=Ac r.o;have bF:=Ak r.o;have bL:=Ab X.o;have bO:=Ab r.o;go_wp2_with fail;rw[aP.o];refine bodyPost_ret (v:=.agg #[.int .i64 0,.string m,.string g,.slice E args.length F,.slice h f.length j,.pointer none]) (by simp[results,results205,go_sem, *]) rfl ?_;refine aI.o _ ?_;repeat' with_reducible first|exact Ag.refl _ _|refine Ag.setCell ?_ _ _
 ·rw[av]at z
  have bN:=Ab X.o;have br:=Ab r.o;have bX:w.heap.size<=w7.heap.size:=Nat.le_of_lt br;have aO:=Aa (aN.o w7 ⟨#[]⟩ J (by omega) av aQ.o);generalize part ps.length ⟨#[]⟩ J=bY at*;obtain⟨Ps,bw⟩:=bY;have aP:=Aa (show a5=(⟨0,m,g,args,f,some ps.length⟩,Ps,bw)from z.o);clear z aN av;simp only[]at aO;go_wp2_with fail;refine aO.o.mono ?_;rintro _ w8 ⟨new,k,rfl,ay,bt,bv,A,bu⟩;have H:=A.at X.o (by decide);have bx:=Aa (AI H 5 (pV k));have au:=Aa (Ed (i:=5) (A.at r.o (by decide)) (show w.heap.size≠w1.heap.size by omega) (pV k));have a7:=Aa ((aM.o.trans A).sn a1 ⟨w1.heap.size,5,none⟩ aA (pV k));have ba:=Aa (Ds (i:=5) (A.own ao.o (by decide)) (By (A.own ao.o (by decide)) H (by decide)) (pV k));have bc:=Aa (Ds (i:=5) (A.own ap.o (by decide)) (By (A.own ap.o (by decide)) H (by decide)) (pV k));have bg:=Aa (bv.st H (by decide) 5 (pV k));have bf:=Aa (bu.typ' (AA.setB bN 5 (pV k)));have bd:=Aa (show AO (ps++new) (some ps.length)=pV k from by show Value.pointer _=_;rw[ay];rfl);have bs:ps.length<(ps++new).length:=by
   rcases Nat.lt_or_ge ps.length (ps++new).length with a|a
   ·exact a
   ·rw[List.getElem?_eq_none a]at ay;cases ay
  have a8:=Aa (xZ bt bs);have bB:=Ac H;have b4:=Ak H;have bL:=Ab H;have aw:=A.at r.o (by decide);have bD:=Ac aw;have bF:=Ak aw;have bO:=Ab aw;unfold pV at bx au a7 ba bc bg bf bd;clear bv A bu H aO X r ao ap aQ aM ay bt bs aw;unfold pV;have aI:=Aa (fun Y (x:Ag w.heap.size (w8.setCell ⟨w1.heap.size,5,none⟩ (.pointer (some ⟨k,0,none⟩))) Y)=>(show Hp w Y B0 p b q G d vO vF ps (⟨0,m,g,args,f,some ps.length⟩,Ps,bw) (.returned (.agg #[.int .i64 0,.string m,.string g,.slice E args.length F,.slice h f.length j,.pointer (some ⟨k,0,none⟩)]))from
   ⟨new,.slice E args.length F,.slice h f.length j,by show _=Ending.returned (.agg #[.int .i64 0,.string m,.string g,.slice E args.length F,.slice h f.length j,AO (ps++new) (some ps.length)]);rw[bd.o],a8.o.1,⟨(AA.keep (B:=0) (K:=[236]) x au.o (by decide)).own ba.o (by decide) (wZ _),(AA.keep (B:=0) (K:=[238]) x au.o (by decide)).own bc.o (by decide) (wZ _),ax,bp,fun i e=>by cases e;exact a8.o.2⟩,bg.o.typ (AA.keep x au.o (by decide)),a7.o.kn x (wQ _) a1,(bf.o.typ' (AA.keepB x br)).low bX⟩))
  go_wp2_with fail;rw[aP.o];refine bodyPost_ret (v:=.agg #[.int .i64 0,.string m,.string g,.slice E args.length F,.slice h f.length j,.pointer (some ⟨k,0,none⟩)]) (by simp[results,results205,go_sem, *]) rfl ?_;refine aI.o _ ?_;repeat' with_reducible first|exact Ag.refl _ _|refine Ag.setCell ?_ _ _
end
end Go.Proofs.YtogdodlibkckkaaGreatDoor
