import Derived.Test.YtadneapobijejaaGreatDoorC06
import Derived.Test.YtadneapobijejaaGreatDoorC13
import Derived.Deep.DeepCutAuto
namespace Go.Proofs.YtadneapobijejaaGreatDoor
set_option maxHeartbeats 20000000
set_option maxRecDepth 100000
open Go.RowKit Tryz
structure FT(B0:Nat)(K:List TypeId)(w X:World):Prop where
 os:X.os=w.os
 tape:X.tape=w.tape
 output:X.output=w.output
 size:w.heap.size<=X.heap.size
 low:∀k,k<B0->X.heap[k]?=w.heap[k]?
 typ:∀(k:Nat) (o:Obj),w.heap[k]?=some o->(∀(cs:Array Value) (t:TypeId) (fr:Nat×Nat),o=Obj.cells cs t fr->t∉K)->X.heap[k]?=some o
section
variable {B0 b F B n size:Nat} {K:List TypeId} {w X Y:World} {e T:TypeId} {v:Value} {xs:List Value} {cs:Array Value} {fr:Nat×Nat} {o:Obj}
theorem FT.refl(B0:Nat)(K:List TypeId)(w:World):FT B0 K w w:=⟨rfl,rfl,rfl,tL _,fun _ _=>rfl,fun _ _ h _=>h⟩
theorem FT.trans(h:FT B0 K w X)(k:FT B0 K X Y):FT B0 K w Y:=
 ⟨k.os.trans h.os,k.tape.trans h.tape,k.output.trans h.output,tQ h.size k.size,fun i hi=>(k.low i hi).trans (h.low i hi),fun i o hi ht=>k.typ i o (h.typ i o hi ht) ht⟩
theorem FT.of_below(h:vE w X)(hb:B0<=w.heap.size):FT B0 K w X:=
 ⟨h.os,h.tape,h.output,h.size,fun k hk=>h.block k (by omega),fun k o hk _=>(h.block k (Ab hk)).trans hk⟩
theorem FT.bt(h:FT B0 K w X)(k:vE X Y)(hb:B0<=w.heap.size):FT B0 K w Y:=h.trans (.of_below k (tQ hb h.size))
theorem FT.al(h:FT B0 K w X)(hb:B0<=w.heap.size)(o:Obj):FT B0 K w (X.alloc o):=h.bt ((tM _ _).alloc (tL _) _) hb
theorem FT.dr(h:FT B0 K w X):FT B0 K w X.drew:=⟨h.os,h.tape,h.output,h.size,h.low,h.typ⟩
theorem FT.st(h:FT B0 K w X)(hF:X.heap[F]?=some (.cells cs T fr))(hT:T∈K)(hB:B0<=F)(i:Nat)(u:Value):FT B0 K w (X.setCell ⟨F,i,none⟩ u):=
 h.trans ⟨rfl,rfl,rfl,by simp[World.setCell],fun k hk=>tX _ _ _ _ (show k≠F by omega),fun k o hk ht=>(tX _ _ _ _ (show k≠F from fun e=>by subst e;rw[hF]at hk;cases hk;exact ht _ _ _ rfl hT)).trans hk⟩
theorem FT.sn(h:FT B0 K w X)(hb:B0<=w.heap.size)(a:Addr)(ha:w.heap.size<=a.block)(u:Value):FT B0 K w (X.setCell a u):=
 ⟨h.os,h.tape,h.output,tQ h.size (by simp[World.setCell]),fun k hk=>(tX _ _ _ _ (by omega)).trans (h.low k hk),fun k o hk ht=>(tX _ _ _ _ (by have:=Ab hk;omega)).trans (h.typ k o hk ht)⟩
theorem FT.of_keep(h:Ag b w X)(hb:w.heap[b]?=some (.cells cs T fr))(hT:T∈K)(hB:B0<=b)(hw:B0<=w.heap.size):FT B0 K w X:=
 ⟨h.os,h.tape,h.output,h.size,fun k hk=>h.block k (by omega) (by omega),fun k o hk ht=>(h.block k (Ab hk) (fun e=>by subst e;rw[hb]at hk;cases hk;exact ht _ _ _ rfl hT)).trans hk⟩
theorem FT.kn(h:FT B0 K w X)(k:Ag b X Y)(hb:w.heap.size<=b)(hw:B0<=w.heap.size):FT B0 K w Y:=
 ⟨k.os.trans h.os,k.tape.trans h.tape,k.output.trans h.output,tQ h.size k.size,fun i hi=>(k.block i (by have:=h.size;omega) (by omega)).trans (h.low i hi),fun i o hi ht=>(k.block i (by have:=Ab hi;have:=h.size;omega) (by have:=Ab hi;omega)).trans (h.typ i o hi ht)⟩
theorem FT.gr{row:Option Nat}(h:FT B0 K w X)(hg:X.grownBy Y row)(hr:∀k,row=some k->(B0<=k/\∃(cs:Array Value) (t:TypeId) (fr:Nat×Nat),X.heap[k]?=some (Obj.cells cs t fr)/\t∈K)\/w.heap.size<=k)(hw:B0<=w.heap.size):FT B0 K w Y:=
 ⟨hg.os.trans h.os,hg.tape.trans h.tape,hg.output.trans h.output,tQ h.size hg.size,fun i hi=>(hg.block i (by have:=h.size;omega) (fun e=>by rcases hr i e.symm with⟨q,_⟩|q<;>omega)).trans (h.low i hi),fun i o hi ht=>by
  have hx:=h.typ i o hi ht;refine(hg.block i (Ab hx) (fun e=>?_)).trans hx;rcases hr i e.symm with⟨_,cs,t,fr,q,hk⟩|q
  ·rw[hx]at q;exact ht _ _ _ (tY q) hk
  ·have:=Ab hi;omega⟩
theorem FT.at(h:FT B0 K w X){k:Nat}(hk:w.heap[k]?=some (.cells cs T fr))(hT:T∉K):X.heap[k]?=some (.cells cs T fr):=h.typ k _ hk (fun _ _ _ e=>by cases e;exact hT)
theorem FT.own(h:FT B0 K w X)(ho:w.ownsRow B e size v n xs)(he:e∉K):X.ownsRow B e size v n xs:=by
 refine⟨ho.1,?_⟩;rcases ho.2 with q|⟨g,cap,cur,hv,hg,hh,r⟩
 ·exact Or.inl q
 ·exact Or.inr ⟨g,cap,cur,hv,hg,h.at hh he,r⟩
theorem FT.below(h:FT B0 K w X):Below B0 w X:=⟨h.os,h.tape,h.output,h.size,h.low⟩
theorem FT.mono{K':List TypeId}(h:FT B0 K w X)(hk:∀t,t∈K->t∈K'):FT B0 K' w X:=⟨h.os,h.tape,h.output,h.size,h.low,fun i o hi ht=>h.typ i o hi (fun cs t fr e q=>ht cs t fr e (hk t q))⟩
end
abbrev PV:=Nat×Int×vD
abbrev Eh:=vD×PV
abbrev GZ:=Nat×PV
structure Aq where
 kind:Nat
 key:vD
 name:vD
 args:List Eh
 conds:List GZ
 part:Option Nat
structure Ai where
 typ:vD
 sels:List Aq
structure DS where
 name:vD
 scalar:vD
 strict:Bool
 has:Bool
 dflt:PV
abbrev NO:=List DS×Nat
abbrev CS:=vD×Nat
structure Qy where
 ops:List NO
 frags:List CS
 parts:List Ai
def Qf:vD:=⟨#[115,107,105,112]⟩
def Qe:vD:=⟨#[105,110,99,108,117,100,101]⟩
def MC:vD:=⟨#[105,102]⟩
def Dl:vD:=⟨#[111,110]⟩
def KA:vD:=⟨#[113,117,101,114,121]⟩
def Kz:vD:=⟨#[102,114,97,103,109,101,110,116]⟩
def nK(s:St)(k:Nat):St:=mustT s (Ad s k)
def nW(s:St)(x:vD):St:=mustT s (Bn s x)
def qVal(s:St):PV×St:=if Ad s 6=true then((9,0,nm (tl s)),nmT (tl s))else(valK s,pVal s)
def qArg(s:St):Eh×St:=((nm s,(qVal (nK (nmT s) 9)).1),(qVal (nK (nmT s) 9)).2)
def qArgsF:Nat->St->List Eh×St
 |0,s=>([],s)
 |f+1,s=>if Ad s 1=true then((qArg s).1::(qArgsF f (qArg s).2).1,(qArgsF f (qArg s).2).2)else([],s)
def qArgs(s:St):List Eh×St:=((qArg s).1::(qArgsF 801 (qArg s).2).1,nK (qArgsF 801 (qArg s).2).2 8)
def RO(n:vD):Nat:=if n=Qf then 3 else if n=Qe then 4 else 0
def KZ(s:St):St:=if nm s=Qf then nmT s else if nm s=Qe then nmT s else none
def RN(s:St):St:=nK (nW (nK (KZ s) 7) MC) 9
def qCond(s:St):GZ×St:=((RO (nm s),(qVal (RN s)).1),nK (qVal (RN s)).2 8)
def qConds:Nat->St->List GZ×St
 |0,s=>([],s)
 |f+1,s=>if Ad s 11=true then((qCond (tl s)).1::(qConds f (qCond (tl s)).2).1,(qConds f (qCond (tl s)).2).2)else([],s)
def CP(s:St):DS×St:=
 let s1:=nK s 6
 let s2:=nK (nmT s1) 9
 let s3:=nmT s2
 let s4:=mayT s3 (Ad s3 5)
 let s5:=mayT s4 (Ad s4 10)
 if Ad s4 10=true then(⟨nm s1,nm s2,Ad s3 5,true,valK s5⟩,pVal s5)else(⟨nm s1,nm s2,Ad s3 5,false,(0,0,⟨#[]⟩)⟩,s5)
def CZ:Nat->St->List DS×St
 |0,s=>([],s)
 |f+1,s=>if Ad s 6=true then((CP s).1::(CZ f (CP s).2).1,(CZ f (CP s).2).2)else([],s)
def Em(s:St):vD×St:=if Ad (nmT s) 9=true then(nm (tl (nmT s)),nmT (tl (nmT s)))else(nm s,nmT s)
def Gn(s:St):List Eh×St:=if Ad s 7=true then qArgs (tl s)else([],s)
def FP(s:St):vD×St:=if Bn s Dl=true then(nm (tl s),nmT (tl s))else(⟨#[]⟩,s)
def Bz(d:Nat)(s:St):St:=if 10<d then none else s
def Iv(part:Nat->vD->St->List Ai×St)(n:Nat)(s:St):Aq×List Ai×St:=
 let a:=Gn (Em s).2
 let c:=qConds 801 a.2
 if Ad c.2 14=true then
  let p:=part n ⟨#[]⟩ c.2
  (⟨0,nm s,(Em s).1,a.1,c.1,some n⟩,p.1,p.2)
 else(⟨0,nm s,(Em s).1,a.1,c.1,none⟩,[],c.2)
def JC(part:Nat->vD->St->List Ai×St)(n:Nat)(s:St):Aq×List Ai×St:=
 let c:=qConds 801 (FP s).2
 let p:=part n (FP s).1 c.2
 (⟨2,⟨#[]⟩,⟨#[]⟩,[],c.1,some n⟩,p.1,p.2)
def Et(part:Nat->vD->St->List Ai×St)(n:Nat)(s:St):Aq×List Ai×St:=
 if Ad s 4=true then
  if (Ad (tl s) 1&&!Bn (tl s) Dl)=true then
   (⟨1,⟨#[]⟩,nm (tl s),[],(qConds 801 (nmT (tl s))).1,none⟩,[],(qConds 801 (nmT (tl s))).2)
  else JC part n (tl s)
 else Iv part n s
def Ch(sel:Nat->St->Aq×List Ai×St):Nat->Nat->St->List Aq×List Ai×St
 |0,_,s=>([],[],s)
 |f+1,n,s=>
  if Cf s=true then([],[],s)else if Ad s 15=true then([],[],s)else
   let x:=sel n s
   let y:=Ch sel f (n+x.2.1.length) x.2.2
   (x.1::y.1,x.2.1++y.2.1,y.2.2)
def FB(sel:Nat->St->Aq×List Ai×St)(n d:Nat)(typ:vD)(s:St):List Ai×St:=
 let x:=sel (n+1) (nK (Bz (d+1) s) 14)
 let y:=Ch sel 801 (n+1+x.2.1.length) x.2.2
 (⟨typ,x.1::y.1⟩::(x.2.1++y.2.1),nK y.2.2 15)
def BA:Nat->Nat->Nat->vD->St->List Ai×St
 |0,_,_,typ,s=>([⟨typ,[]⟩],s)
 |f+1,n,d,typ,s=>FB (Et (fun n typ s=>BA f n (d+1) typ s)) n d typ s
def Iw:Nat:=11
def EM(n:Nat)(s:St):NO×List Ai×St:=
 let s1:=mayT s (Ad s 1)
 if Ad s1 7=true then
  let v:=CP (tl s1)
  let r:=CZ 801 v.2
  let p:=BA Iw n 0 ⟨#[]⟩ (nK r.2 8)
  ((v.1::r.1,n),p.1,p.2)
 else
  let p:=BA Iw n 0 ⟨#[]⟩ s1
  (([],n),p.1,p.2)
def EL(s:St):St:=if Bn s Dl=true then none else s
def EK(n:Nat)(s:St):CS×List Ai×St:=
 let s1:=EL s
 let s2:=nW (nmT s1) Dl
 let p:=BA Iw n 0 (nm s2) (nmT s2)
 ((nm s1,n),p.1,p.2)
def Cd(q:Qy)(s:St):Qy×St:=
 if Ad s 14=true then
  let p:=BA Iw q.parts.length 0 ⟨#[]⟩ s
  (⟨q.ops++[([],q.parts.length)],q.frags,q.parts++p.1⟩,p.2)
 else if Bn s KA=true then
  let o:=EM q.parts.length (tl s)
  (⟨q.ops++[o.1],q.frags,q.parts++o.2.1⟩,o.2.2)
 else if Bn s Kz=true then
  let o:=EK q.parts.length (tl s)
  (⟨q.ops,q.frags++[o.1],q.parts++o.2.1⟩,o.2.2)
 else(q,none)
def FA:Nat->Qy->St->Qy×St
 |0,q,s=>(q,s)
 |f+1,q,s=>if Cf s=true then(q,s)else FA f (Cd q s).1 (Cd q s).2
def BD(s:St):Qy×St:=FA 801 (Cd ⟨[],[],[]⟩ s).1 (Cd ⟨[],[],[]⟩ s).2
theorem Ft(s:St)(k:Nat):ln (nK s k)<=ln s:=Do _ _
theorem Ri(s:St)(x:vD):ln (nW s x)<=ln s:=Do _ _
theorem Rl(s:St):ln (pVal s)<=ln s:=by
 unfold pVal;split
 ·exact BG _
 split
 ·exact BG _
 split
 ·unfold Jd;(repeat' split)<;>first|exact BG _|simp[ln]
 ·simp[ln]
theorem Vo(s:St):ln (qVal s).2<=ln s:=by
 unfold qVal;split
 ·exact tQ (AZ _) (BG _)
 ·exact Rl _
theorem OF(s:St):ln (qArg s).2<=ln (nmT s):=tQ (Vo _) (Ft _ _)
theorem Vm:∀(f:Nat) (s:St),ln (qArgsF f s).2<=ln s
 |0,s=>tL _
 |f+1,s=>by
  rw[qArgsF];split
  ·exact tQ (Vm f _) (tQ (OF s) (AZ s))
  ·exact tL _
theorem Vl(s:St):ln (qArgs s).2<=ln s:=tQ (Ft _ _) (tQ (Vm _ _) (tQ (OF s) (AZ s)))
theorem oD(f:Nat)(s:St)(h:Ad s 1=false):qArgsF f s=([],s):=by
 cases f with
 |zero=>rfl
 |succ f=>rw[qArgsF,uB (by rw[h];simp)]
theorem jQ(s:St):ln (KZ s)<=ln s:=by
 unfold KZ
 (repeat' split)<;>first|exact AZ _|simp[ln]
theorem Vn(s:St):ln (qCond s).2<=ln s:=tQ (Ft _ _) (tQ (Vo _) (tQ (Ft _ _) (tQ (Ri _ _) (tQ (Ft _ _) (jQ s)))))
theorem LS:∀(f:Nat) (s:St),ln (qConds f s).2<=ln s
 |0,s=>tL _
 |f+1,s=>by
  rw[qConds];split
  ·exact tQ (LS f _) (tQ (Vn _) (BG s))
  ·exact tL _
theorem jE(s:St):ln (Em s).2<=ln (nmT s):=by
 unfold Em;split
 ·exact tQ (AZ _) (BG _)
 ·exact tL _
theorem jD(s:St):ln (Gn s).2<=ln s:=by
 unfold Gn;split
 ·exact tQ (Vl _) (BG _)
 ·exact tL _
theorem jF(s:St):ln (FP s).2<=ln s:=by
 unfold FP;split
 ·exact tQ (AZ _) (BG _)
 ·exact tL _
def PI(part:Nat->vD->St->List Ai×St):Prop:=∀n typ s,1<=(part n typ s).1.length/\(part n typ s).1.length+ln (part n typ s).2<=ln s+1
def Mu(sel:Nat->St->Aq×List Ai×St):Prop:=∀n s,(sel n s).2.1.length+ln (sel n s).2.2<=ln s/\(Cf s=false->ln (sel n s).2.2<ln s)
theorem Rj(s:St)(h:Cf s=false):ln (nmT s)<ln s:=by
 rcases hs:Ad s 1 with _|_
 ·have:nmT s=none:=by unfold nmT;rw[hs];rfl
  rw[this];cases s with
  |none=>simp[Cf]at h
  |some l=>cases l with
   |nil=>simp[Cf]at h
   |cons t l=>simp[ln]
 ·exact KQ s hs
theorem RP{part:Nat->vD->St->List Ai×St}(hp:PI part):Mu (Et part):=by
 intro n s;unfold Et;split
 ·rename_i h4
  have h1:=EG s 4 (by decide) h4;split
  ·have:=LS 801 (nmT (tl s))
   have:=AZ (tl s);simp;omega
  ·unfold JC
   have h2:=jF (tl s);have h3:=LS 801 (FP (tl s)).2;have h5:=hp n (FP (tl s)).1 (qConds 801 (FP (tl s)).2).2;simp only[];omega
 ·unfold Iv
  have h1:=jE s;have h2:=jD (Em s).2;have h3:=LS 801 (Gn (Em s).2).2;have h6:=AZ s;have h7:=Rj s;simp only[];split
  ·rename_i h14
   have h5:=hp n ⟨#[]⟩ (qConds 801 (Gn (Em s).2).2).2;have h8:=EG _ 14 (by decide) h14;have h9:Cf s=false:=by
    cases s with
    |none=>exact absurd h14 (by have:ln (nmT none)=0:=rfl;omega)
    |some l=>cases l with
     |nil=>exact absurd h14 (by have:ln (nmT (some []))=0:=rfl;omega)
     |cons t l=>simp[Cf]
   have:=h7 h9;simp only[];omega
  ·simp only[List.length_nil]
   refine⟨by omega,fun h=>?_⟩;have:=h7 h;omega
theorem RQ{sel:Nat->St->Aq×List Ai×St}(hs:Mu sel):∀(f n:Nat) (s:St),(Ch sel f n s).2.1.length+ln (Ch sel f n s).2.2<=ln s
 |0,n,s=>by simp[Ch]
 |f+1,n,s=>by
  rw[Ch];split
  ·simp
  split
  ·simp
  ·have h1:=hs n s
   have h2:=RQ hs f (n+(sel n s).2.1.length) (sel n s).2.2;simp only[uE];omega
theorem UY(d:Nat)(s:St):ln (Bz d s)<=ln s:=by
 unfold Bz;split
 ·simp[ln]
 ·exact tL _
theorem oK{sel:Nat->St->Aq×List Ai×St}(hs:Mu sel)(d:Nat):PI (fun n typ s=>FB sel n d typ s):=by
 intro n typ s;unfold FB;have h0:=UY (d+1) s;have h1:=Ft (Bz (d+1) s) 14;have h2:=hs (n+1) (nK (Bz (d+1) s) 14);have h3:=RQ hs 801 (n+1+(sel (n+1) (nK (Bz (d+1) s) 14)).2.1.length) (sel (n+1) (nK (Bz (d+1) s) 14)).2.2;have h4:=Ft (Ch sel 801 (n+1+(sel (n+1) (nK (Bz (d+1) s) 14)).2.1.length) (sel (n+1) (nK (Bz (d+1) s) 14)).2.2).2.2 15;simp only[uQ,uE];omega
theorem Pe:∀(f d:Nat),PI (fun n typ s=>BA f n d typ s)
 |0,d=>fun n typ s=>by simp[BA];omega
 |f+1,d=>oK (RP (Pe f (d+1))) d
theorem RR(sel:Nat->St->Aq×List Ai×St)(f n:Nat)(s:St)(h:(!Cf s&&!Ad s 15)=false):Ch sel f n s=([],[],s):=by
 cases f with
 |zero=>rfl
 |succ f=>
  rw[Ch];cases h1:Cf s
  ·rw[h1]at h
   simp at h;simp[h]
  ·simp
theorem WN(f:Nat)(s:St)(h:Ad s 11=false):qConds f s=([],s):=by
 cases f with
 |zero=>rfl
 |succ f=>rw[qConds,uB (by rw[h];simp)]
structure LQ(w X:World)(p b G:Nat)(u v:Value)(s:St):Prop extends PK w X b G s where
 pp:X.heap[p]?=some (.cells #[.pointer (some ⟨b,0,none⟩),u,v] 100 (0,0))
 hp:p<w.heap.size
section
variable {w X Y:World} {p b G F N B0 size n:Nat} {u v:Value} {s s':St} {e:TypeId} {x:Value} {xs:List Value} {o o':Obj}
theorem LQ.c0(h:LQ w X p b G u v s):X.cell? ⟨p,0,none⟩=some (.pointer (some ⟨b,0,none⟩)):=Ac h.pp 0
theorem LQ.lt(h:LQ w X p b G u v s):p<X.heap.size:=Ab h.pp
theorem LQ.pb(h:LQ w X p b G u v s):p≠b:=fun e=>by
 obtain⟨c,hc⟩:=h.ps.ty;have:=h.pp;rw[e,hc]at this;cases this
theorem LQ.one(h:LQ w X p b G u v s):LQ X X p b G u v s:=⟨h.ps.pk,h.pp,h.lt⟩
theorem LQ.al(h:LQ w X p b G u v s)(o:Obj):LQ w (X.alloc o) p b G u v s:=⟨h.toPK.al o,(AK _ _ _ h.lt).trans h.pp,h.hp⟩
theorem LQ.dr(h:LQ w X p b G u v s):LQ w X.drew p b G u v s:=⟨h.toPK.dr,h.pp,h.hp⟩
theorem LQ.st(h:LQ w X p b G u v s)(a:Addr)(ha:w.heap.size<=a.block)(z:Value):LQ w (X.setCell a z) p b G u v s:=⟨h.toPK.st a ha z,(tX _ _ _ _ (by have:=h.hp;omega)).trans h.pp,h.hp⟩
theorem LQ.call(h:LQ w X p b G u v s)(hp:PS Y b G s')(k:Ag b X Y):LQ w Y p b G u v s':=⟨h.toPK.call hp k,k.at h.pp h.pb,h.hp⟩
theorem LQ.kt(h:LQ w X p b G u v s)(k:PK X Y b G s'):LQ w Y p b G u v s':=h.call k.ps k.kp
theorem LQ.tr(h:LQ w X p b G u v s)(k:LQ X Y p b G u v s'):LQ w Y p b G u v s':=h.kt k.toPK
theorem LQ.be(h:LQ w X p b G u v s)(k:vE X Y):LQ w Y p b G u v s:=⟨h.toPK.be k,(k.block _ h.lt).trans h.pp,h.hp⟩
theorem LQ.gr(h:LQ w X p b G u v s){row:Option Nat}(hg:X.grownBy Y row)(hr:∀k,row=some k->w.heap.size<=k):LQ w Y p b G u v s:=
 ⟨⟨h.ps.grown hg hr h.hb h.hg,h.kp.grown hg hr,h.hb,h.hg⟩,(hg.block _ h.lt (fun e=>by have:=hr _ e.symm;have:=h.hp;omega)).trans h.pp,h.hp⟩
theorem LQ.app(q:LQ w X p b G u v s)(ho:X.ownsRow B0 e size x n xs)(hg:(X.alloc o).grownBy Y x.ownBlock)(hN:w.heap.size<=N)(hB:w.heap.size<=B0)(i:Nat)(z:Value):LQ w (Y.setCell ⟨N,i,none⟩ z) p b G u v s:=
 ((q.al _).gr hg (fun k hk=>tQ hB (ho.lt k hk).1)).st _ hN _
theorem LQ.own(q:LQ w X p b G u v s)(k:Ag b X Y)(ho:X.ownsRow B0 e size x n xs)(hB:w.heap.size<=B0):Y.ownsRow B0 e size x n xs:=by
 refine⟨ho.1,?_⟩;rcases ho.2 with h|⟨g,cap,cur,h1,h2,h3,h4⟩
 ·exact Or.inl h
 ·exact Or.inr ⟨g,cap,cur,h1,h2,(k.block g (Ab h3) (by have:=q.hb;omega)).trans h3,h4⟩
end
theorem DT{w:World}{F k i:Nat}{o:Obj}(h:w.heap[k]?=some o)(hne:k≠F)(v:Value):(w.setCell ⟨F,i,none⟩ v).heap[k]?=some o:=(tX _ _ _ _ hne).trans h
def vL(v:PV):List Value:=[.int .i64 v.1,.int .i64 v.2.1,.string v.2.2]
def aL(a:Eh):List Value:=[.string a.1,.int .i64 a.2.1,.int .i64 a.2.2.1,.string a.2.2.2]
def cL(a:GZ):List Value:=[.int .i64 a.1,.int .i64 a.2.1,.int .i64 a.2.2.1,.string a.2.2.2]
theorem Xi{w:World}{p b G:Nat}{u v:Value}{s:St}(h:LQ w w p b G u v s):
 Calls prog 233 #[.pointer (some ⟨p,0,none⟩)] w fun e w'=>e=.returned (.agg #[.int .i64 (qVal s).1.1,.int .i64 (qVal s).1.2.1,.string (qVal s).1.2.2])/\LQ w w' p b G u v (qVal s).2:=by
 have Q0:=Aa h;have hlt:=h.ps.lt;have hpl:=h.lt;have c:=h.c0;have HT:=Aa (fun W (hW:LQ w W p b G u v s)=>Ev W b G s 6 hW.ps);have HV:=Aa (fun W (hW:LQ w W p b G u v s)=>NK W b G s hW.ps);unfold qVal;clear h;cases e:Ad s 6
 rotate_left
 ·rw[e]at HT
  have HN:=Aa (fun W (hW:LQ w W p b G u v (tl s))=>DX W b G (tl s) hW.ps);clear e HV;rw[uC rfl];generalize nm (tl s)=n at*;generalize nmT (tl s)=s2 at*;go_enter func233,ntmps233;go_wp2_with fail;refine(HT.o _ (Q0.o.al _)).mono ?_;rintro _ w1 ⟨rfl,h1,k1⟩;have Q1:=Aa (show LQ w w1 p b G u v (tl s)from(Q0.o.al _).call h1 k1);have HZ:=Aa (k1.at (tS w _) (by omega));have c1:=Q1.o.c0;have hp1:=Q1.o.lt;have hb1:=h1.lt;have hl1:=Ab HZ.o;clear h1 k1;go_wp2_with fail;refine(HN.o _ Q1.o).mono ?_;rintro _ w2 ⟨rfl,h2,k2⟩;have Q2:=Aa (Q1.o.call h2 k2);have hz:=k2.at HZ.o (by omega);have c2:=Ac hz;have f2:=Am hz;have hl2:=Ab hz;clear h2 k2 hz;go_wp2_with fail;refine bodyPost_ret (v:=.agg #[.int .i64 9,.int .i64 0,.string n]) (by simp[results,results233,go_sem, *]) rfl ⟨rfl,?_⟩;repeat' with_reducible first|exact Q2.o|refine LQ.al ?_ _|refine LQ.st ?_ _ (tL _) _
 ·rw[e]at HT
  clear e;rw[uB (by decide)];generalize valK s=vv at*;generalize pVal s=sv at*;go_enter func233,ntmps233;go_wp2_with fail;refine(HT.o _ (Q0.o.al _)).mono ?_;rintro _ w1 ⟨rfl,h1,k1⟩;have Q1:=Aa (show LQ w w1 p b G u v s from(Q0.o.al _).call h1 k1);have HZ:=Aa (k1.at (tS w _) (by omega));have c1:=Q1.o.c0;have hp1:=Q1.o.lt;clear h1 k1;go_wp2_with fail;refine(HV.o _ Q1.o).mono ?_;rintro _ w2 ⟨rfl,k2⟩;have hz:=k2.kp.at HZ.o (by omega);have c2:=Ac hz;have f2:=Am hz;have hl2:=Ab hz;have Q2:=Aa (Q1.o.kt k2);clear k2 hz;go_wp2_with fail;refine bodyPost_ret (v:=.agg #[.int .i64 vv.1,.int .i64 vv.2.1,.string vv.2.2]) (by simp[results,results233,go_sem, *]) rfl ⟨rfl,?_⟩;repeat' with_reducible first|exact Q2.o|refine LQ.al ?_ _|refine LQ.st ?_ _ (tL _) _
section
variable {w:World} {p b G:Nat} {u v:Value} {s:St}
theorem oW(h:LQ w w p b G u v s):
 Calls prog 232 #[.pointer (some ⟨p,0,none⟩)] w fun e w'=>e=.returned (.agg #[.string (qArg s).1.1,.int .i64 (qArg s).1.2.1,.int .i64 (qArg s).1.2.2.1,.string (qArg s).1.2.2.2])/\LQ w w' p b G u v (qArg s).2:=by
 have Q0:=Aa h;have hlt:=h.ps.lt;have hpl:=h.lt;have c:=h.c0;have HC:=Aa (fun W (hW:LQ w W p b G u v s)=>DX W b G s hW.ps);have HN:=Aa (fun W (hW:LQ w W p b G u v (nmT s))=>Cc W b G (nmT s) 9 hW.ps);have HV:=Aa (fun W (hW:LQ w W p b G u v (nK (nmT s) 9))=>Xi hW.one);unfold qArg;generalize (Ay (nmT s) 9).k=nk at*;generalize (Ay (nmT s) 9).n=nn at*;generalize (Ay (nmT s) 9).s=ny at*;have HS:=Aa (nK.eq_1 (nmT s) 9);generalize nK (nmT s) 9=s2 at*;generalize qVal s2=vv at*;obtain⟨vv,s3⟩:=vv;simp only[]at HV⊢;generalize nmT s=s1 at*;generalize nm s=n at*;rw[<-HS.o]at HN;clear h;go_enter func232,ntmps232;go_wp2_with fail;refine(HC.o _ (Q0.o.al _)).mono ?_;rintro _ w1 ⟨rfl,h1,k1⟩;have Q1:=Aa ((Q0.o.al _).call h1 k1);have HZ:=Aa (k1.at (tS w _) (by omega));have hl1:=Ab HZ.o;have c1:=Q1.o.c0;have hp1:=Q1.o.lt;have hb1:=h1.lt;clear h1 k1 HC;go_wp2_with fail;refine(HN.o _ (Q1.o.al _)).mono ?_;rintro _ w2 ⟨rfl,h2,k2⟩;have Q2:=Aa ((Q1.o.al _).call h2 k2);have HZ2:=Aa (k2.at ((AK w1 _ _ hl1).trans HZ.o) (by omega));have HA2:=Aa (k2.at (tS w1 _) (by omega));have c2:=Q2.o.c0;have hp2:=Q2.o.lt;have hb2:=h2.lt;clear h2 k2 HN;go_wp2_with fail;refine(HV.o _ Q2.o).mono ?_;rintro _ w3 ⟨rfl,k3⟩;have hz:=k3.kp.at HZ2.o (by omega);have ha:=k3.kp.at HA2.o (by omega);have c3:=Ac hz;have f3:=Am hz;have hl3:=Ab hz;have c4:=Ac ha;have f4:=Am ha;have hl4:=Ab ha;have Q3:=Aa (Q2.o.tr k3);have hw1:w.heap.size<=w1.heap.size:=Nat.le_of_lt hl1;clear k3 hz ha HV;go_wp2_with fail;refine bodyPost_ret (v:=.agg #[.string n,.int .i64 vv.1,.int .i64 vv.2.1,.string vv.2.2]) (by simp[results,results232,go_sem, *]) rfl ⟨rfl,?_⟩;repeat' with_reducible first|exact Q3.o|refine LQ.al ?_ _|refine LQ.st ?_ _ (tL _) _|refine LQ.st ?_ _ hw1 _
theorem Wi{a b c d:Value}(h1:a.oneCell'=true)(h2:b.oneCell'=true)(h3:c.oneCell'=true)(h4:d.oneCell'=true):∀u∈[a,b,c,d],u.oneCell'=true:=by
 intro u hu;simp at hu;rcases hu with rfl|rfl|rfl|rfl<;>assumption
theorem infoArg:(prog.info? 184).map (fun i=>(i.zero,i.size,i.bytes))=some (some (.agg #[.string ⟨#[]⟩,.int .i64 0,.int .i64 0,.string ⟨#[]⟩]),4,48):=by kernel_rfl
theorem oX(h:LQ w w p b G u v s):
 Calls prog 209 #[.pointer (some ⟨p,0,none⟩)] w fun e w'=>∃x,e=.returned x/\w'.ownsRow w.heap.size 184 4 x (qArgs s).1.length ((qArgs s).1.flatMap aL)/\(qArgs s).1.length<=802/\LQ w w' p b G u v (qArgs s).2:=by
 obtain⟨i0,hi,hz0,hz1,hz2⟩:=info_parts infoArg;have Q0:=Aa h;have hpl:=h.lt;have c:=h.c0;have HA:=Aa (fun W s' (hW:LQ w W p b G u v s')=>oW hW.one);have HA1:=Aa (HA.o · s);have HQ:=Aa (qArgs.eq_1 s);have hl2:ln (qArg s).2<=801:=tQ (OF s) (tQ (AZ s) h.ps.len);clear h;generalize qArgs s=FF at*;generalize qArg s=f0 at*;obtain⟨⟨an,ak,am,at_⟩,s2⟩:=f0;simp only[]at HA1 hl2;go_enter func209,ntmps209;go_wp2_with fail;refine(HA1.o _ Q0.o).mono ?_;rintro _ w2 ⟨rfl,q2⟩;have Q2:=Aa (Q0.o.tr q2);clear q2 HA1;go_wp2_with fail;go_loopg [3] (ln s2) (fun k x wr=>∃(L:List Eh) (s':St) (f:Nat),ln s'<=k/\ln s'<=f/\LQ w wr p b G u v s'/\wr.ownsRow w.heap.size 184 4 x L.length (L.flatMap aL)/\L.length+ln s'<=802/\(((an,ak,am,at_):Eh)::(qArgsF 801 s2).1,(qArgsF 801 s2).2)=(L++(qArgsF f s').1,(qArgsF f s').2))
 case atStart=>
  refine⟨[(an,ak,am,at_)],s2,801,tL _,hl2,Q2.o.al _,?_,by simp;omega,rfl⟩;exact⟨rfl,Or.inr ⟨w2.heap.size,1,_,rfl,Q2.o.kp.size,tS w2 _,tL _,by decide,rfl,rfl⟩⟩
 case round=>
  obtain⟨L,s',f,hlk,hlf,q,hown,hLn,hrel⟩:=hrel;obtain⟨aL',cL',rfl⟩:=An hown;have HM:=Aa hrel;have QR:=Aa q;have HO:=Aa hown;have c4:=q.c0;have hp4:=q.lt;have hSE:=Aa (GS wr b G s' 1 q.ps);clear q hown hrel Q2;cases hx:Ad s' 1
  ·rw[hx]at hSE
   have HE:=Aa (show FF=(L,nK s' 8)from by
    have:=HM.o;rw[oD f s' hx]at this;simp only[Prod.mk.injEq,List.append_nil]at this;rw[HQ.o];rw[this.1,this.2])
   have HN:=Aa (fun W (hW:LQ w W p b G u v s')=>Cc W b G s' 8 hW.ps);generalize (Ay s' 8).k=mk at*;generalize (Ay s' 8).n=mn at*;generalize (Ay s' 8).s=my at*;clear hx HM HQ HA;go_wp2_with fail;refine hSE.o.mono ?_;rintro _ w5 ⟨rfl,b5⟩;have Q5:=Aa (QR.o.be b5);have c5:=Q5.o.c0;have hp5:=Q5.o.lt;have HO5:=Aa (AT HO.o b5);clear b5;go_wp2_with fail;refine(HN.o _ Q5.o).mono ?_;rintro _ w6 ⟨rfl,h6,k6⟩;go_wp2_with fail;go_ret;exact⟨_,rfl,by rw[HE.o];exact Q5.o.own k6 HO5.o (tL _),by rw[HE.o];show L.length<=802;omega,by rw[HE.o];exact Q5.o.call h6 k6⟩
  ·rw[hx]at hSE
   have hlt1:=KQ s' hx;have hlf1:=OF s';obtain⟨f',rfl⟩:∃f',f=f'+1:=⟨f-1,by omega⟩;have HE:=Aa (show(((an,ak,am,at_):Eh)::(qArgsF 801 s2).1,(qArgsF 801 s2).2)=(L++((qArg s').1::(qArgsF f' (qArg s').2).1),(qArgsF f' (qArg s').2).2)from by
    rw[HM.o,qArgsF,uC hx])
   have HA2:=Aa (HA.o · s');clear hx HM HA;generalize qArg s'=f1 at*;obtain⟨⟨gn,gk,gm,gt⟩,s3⟩:=f1;simp only[]at HA2 HE hlf1;go_wp2_with fail;refine hSE.o.mono ?_;rintro _ w5 ⟨rfl,b5⟩;have Q5:=Aa (QR.o.be b5);have HO5:=Aa (AT HO.o b5);clear b5;go_wp2_with fail;refine(HA2.o _ Q5.o).mono ?_;rintro _ w6 ⟨rfl,q6⟩;have hO6:=Q5.o.own q6.kp HO5.o (tL _);have Q6:=Aa (Q5.o.tr q6);have z6:=Q6.o.kp.size;have HLO:=Aa (fun k hk=>(hO6.lt k hk).1);clear q6 HO5 Q5;go_wp2_with (at_builtin;refine wpList_append_own _ rfl _ _ 174 rfl w.heap.size 184 i0 _ 4 48 underlying174 hi hz0 hz1 hz2 rfl (by decide) _ _ _ rfl (hO6.alloc _) ⟨w6.heap.size,0,none⟩ 1 1 [.string gn,.int .i64 gk,.int .i64 gm,.string gt] rfl rfl (Cs _ _ _ _ (by simp)) (Wi rfl rfl rfl rfl) (by unfold maxLen;omega) (by omega) (by simp;omega) ?_;intro v' w7 hown' hgrow _);have Q7:=Aa ((Q6.o.al _).gr hgrow HLO.o);have HO7:=Aa hown';clear hown' hgrow hO6;go_roundg (ln s3)
   case measure=>omega
   case rel=>
    refine⟨L++[(gn,gk,gm,gt)],s3,f',tL _,by omega,Q7.o,by rw[List.flatMap_append,uE];exact HO7.o,by simp;omega,by rw[HE.o];simp⟩
end
section
variable {w:World} {p b G:Nat} {u v:Value} {s:St}
theorem oZ(h:LQ w w p b G u v s):
 Calls prog 210 #[.pointer (some ⟨p,0,none⟩)] w fun e w'=>e=.returned (.agg #[.int .i64 (qCond s).1.1,.int .i64 (qCond s).1.2.1,.int .i64 (qCond s).1.2.2.1,.string (qCond s).1.2.2.2])/\LQ w w' p b G u v (qCond s).2:=by
 have Q0:=Aa h;have hlt:=h.ps.lt;have hpl:=h.lt;have c:=h.c0;have HC:=Aa (fun W (hW:LQ w W p b G u v s)=>DX W b G s hW.ps);have HF:=Aa (fun W (hW:LQ w W p b G u v (nmT s))=>FO W b G (nmT s) hW.ps);have HS:=Aa (uV (RO.eq_1 (nm s)) (KZ.eq_1 s));unfold qCond RN;generalize KZ s=s2 at*;generalize RO (nm s)=dk at*;have HN1:=Aa (fun W (hW:LQ w W p b G u v s2)=>(show Calls prog _ _ W (fun e w'=>_/\PS w' b G (nK s2 7)/\_)from Cc W b G s2 7 hW.ps));generalize nK s2 7=s3 at*;have HW:=Aa (fun W (hW:LQ w W p b G u v s3)=>(show Calls prog _ _ W (fun e w'=>_/\PS w' b G (nW s3 MC)/\_)from OJ W b G s3 MC hW.ps));generalize nW s3 MC=s4 at*;have HN2:=Aa (fun W (hW:LQ w W p b G u v s4)=>(show Calls prog _ _ W (fun e w'=>_/\PS w' b G (nK s4 9)/\_)from Cc W b G s4 9 hW.ps));generalize nK s4 9=s5 at*;have HV:=Aa (fun W (hW:LQ w W p b G u v s5)=>Xi hW.one);generalize qVal s5=vv at*;obtain⟨vv,s6⟩:=vv;simp only[]at HV⊢;have HN3:=Aa (fun W (hW:LQ w W p b G u v s6)=>(show Calls prog _ _ W (fun e w'=>_/\PS w' b G (nK s6 8)/\_)from Cc W b G s6 8 hW.ps));generalize nK s6 8=s7 at*;generalize (Ay s2 7).k=nk at*;generalize (Ay s2 7).n=nn at*;generalize (Ay s2 7).s=ny at*;generalize (Ay s4 9).k=nk4 at*;generalize (Ay s4 9).n=nn4 at*;generalize (Ay s4 9).s=ny4 at*;generalize (Ay s6 8).k=nk6 at*;generalize (Ay s6 8).n=nn6 at*;generalize (Ay s6 8).s=ny6 at*;have L1:=BN (nm s) [115,107,105,112];have L2:=BN (nm s) [105,110,99,108,117,100,101];generalize nm s=n at*;generalize nmT s=s1 at*;clear h;go_enter func210,ntmps210;go_wp2_with fail;refine(HC.o _ ((Q0.o.al _).al _)).mono ?_;rintro _ w1 ⟨rfl,h1,k1⟩;have Q1:=Aa (((Q0.o.al _).al _).call h1 k1);have HZ:=Aa (show w1.heap[w.heap.size]?=some (.cells #[.int .i64 0,.int .i64 0,.int .i64 0,.string ⟨#[]⟩] 186 (0,0))from k1.at ((AK _ _ _ (by simp)).trans (tS w _)) (by omega));have HA:=Aa (show w1.heap[w.heap.size+1]?=some (.cells #[.int .i64 0,.int .i64 0,.int .i64 0,.string ⟨#[]⟩] 186 (0,0))from k1.at (by have:=tS (w.alloc (.cells #[.int .i64 0,.int .i64 0,.int .i64 0,.string ⟨#[]⟩] 186)) (.cells #[.int .i64 0,.int .i64 0,.int .i64 0,.string ⟨#[]⟩] 186);simpa using this) (by omega));have c1:=Q1.o.c0;have hp1:=Q1.o.lt;have hb1:=h1.lt;have hlA1:=Ab HA.o;have cA1:=Ac HA.o;have fA1:=Am HA.o;clear h1 k1 HC
 go_upto_block 0 with fail
 go_cut [] (fun wc=>LQ w wc p b G u v s2/\wc.heap[w.heap.size]?=some (.cells #[.int .i64 0,.int .i64 0,.int .i64 0,.string ⟨#[]⟩] 186 (0,0))/\wc.heap[w.heap.size+1]?=some (.cells #[.int .i64 dk,.int .i64 0,.int .i64 0,.string ⟨#[]⟩] 186 (0,0)))
 case first=>
  by_cases e1:n=Qf
  ·rw[uC e1,uC e1]at HS
   rw[uH (show n=Az [115,107,105,112]from e1)]at L1;clear e1;go_wp2_with fail;go_meet;rw[HS.o.1,HS.o.2];exact⟨Q1.o.st _ (Nat.le_succ _) _,(tX _ _ _ _ (by simp)).trans HZ.o,AI HA.o 0 _⟩
  rw[uB e1,uB e1]at HS;rw[tT (show¬n=Az [115,107,105,112]from e1)]at L1;by_cases e2:n=Qe
  ·rw[uC e2,uC e2]at HS
   rw[uH (show n=Az [105,110,99,108,117,100,101]from e2)]at L2;clear e1 e2;go_wp2_with fail;go_meet;rw[HS.o.1,HS.o.2];exact⟨Q1.o.st _ (Nat.le_succ _) _,(tX _ _ _ _ (by simp)).trans HZ.o,AI HA.o 0 _⟩
  rw[uB e2,uB e2]at HS;rw[tT (show¬n=Az [105,110,99,108,117,100,101]from e2)]at L2;clear e1 e2;go_wp2_with fail;refine(HF.o _ Q1.o).mono ?_;rintro _ w2 ⟨rfl,h2,k2⟩;go_wp2_with fail;go_meet;rw[HS.o.1,HS.o.2];exact⟨Q1.o.call h2 k2,k2.at HZ.o (by omega),k2.at HA.o (by omega)⟩
 case rest=>
  obtain⟨q2,hZ,hA⟩:=hcut;have c2:=q2.c0;have hp2:=q2.lt;have Q2:=Aa q2;have HZ2:=Aa hZ;have HA2:=Aa hA;clear q2 hZ hA HS L1 L2 HF HZ HA Q1 c1 cA1 fA1;go_wp2_with fail;refine(HN1.o _ Q2.o).mono ?_;rintro _ w3 ⟨rfl,h3,k3⟩;have Q3:=Aa (Q2.o.call h3 k3);have HZ3:=Aa (k3.at HZ2.o (by omega));have HA3:=Aa (k3.at HA2.o (by omega));have c3:=Q3.o.c0;have hp3:=Q3.o.lt;clear h3 k3 HN1 HZ2 HA2 Q2 c2;go_wp2_with fail;refine(HW.o _ Q3.o).mono ?_;rintro _ w4 ⟨rfl,h4,k4⟩;have Q4:=Aa (Q3.o.call h4 k4);have HZ4:=Aa (k4.at HZ3.o (by omega));have HA4:=Aa (k4.at HA3.o (by omega));have c4:=Q4.o.c0;have hp4:=Q4.o.lt;clear h4 k4 HW HZ3 HA3 Q3 c3;go_wp2_with fail;refine(HN2.o _ Q4.o).mono ?_;rintro _ w5 ⟨rfl,h5,k5⟩;have Q5:=Aa (Q4.o.call h5 k5);have HZ5:=Aa (k5.at HZ4.o (by omega));have HA5:=Aa (k5.at HA4.o (by omega));have c5:=Q5.o.c0;have hp5:=Q5.o.lt;clear h5 k5 HN2 HZ4 HA4 Q4 c4;go_wp2_with fail;refine(HV.o _ Q5.o).mono ?_;rintro _ w6 ⟨rfl,q6⟩;have hA6:=q6.kp.at HA5.o (by omega);have HZ6:=Aa (q6.kp.at HZ5.o (by omega));have Q6:=Aa (Q5.o.tr q6);have cA6:=Ac hA6;have fA6:=Am hA6;have hlA6:=Ab hA6;have c6:=Q6.o.c0;have hp6:=Q6.o.lt;have HAS:=Aa (show((((w6.setCell ⟨w.heap.size+1,1,none⟩ (.int .i64 vv.1)).setCell ⟨w.heap.size+1,2,none⟩ (.int .i64 vv.2.1)).setCell ⟨w.heap.size+1,3,none⟩ (.string vv.2.2)).heap[w.heap.size+1]?=some (.cells #[.int .i64 dk,.int .i64 vv.1,.int .i64 vv.2.1,.string vv.2.2] 186 (0,0)))from AI (AI (AI hA6 1 _) 2 _) 3 _);clear q6 HV HZ5 HA5 Q5 c5 hA6;go_wp2_with fail;have Q7:=Aa (((Q6.o.st ⟨w.heap.size+1,1,none⟩ (Nat.le_succ _) (.int .i64 vv.1)).st ⟨w.heap.size+1,2,none⟩ (Nat.le_succ _) (.int .i64 vv.2.1)).st ⟨w.heap.size+1,3,none⟩ (Nat.le_succ _) (.string vv.2.2));have HZ7:=Aa (show(((w6.setCell ⟨w.heap.size+1,1,none⟩ (.int .i64 vv.1)).setCell ⟨w.heap.size+1,2,none⟩ (.int .i64 vv.2.1)).setCell ⟨w.heap.size+1,3,none⟩ (.string vv.2.2)).heap[w.heap.size]?=some (.cells #[.int .i64 0,.int .i64 0,.int .i64 0,.string ⟨#[]⟩] 186 (0,0))from(tX _ _ _ _ (by simp)).trans ((tX _ _ _ _ (by simp)).trans ((tX _ _ _ _ (by simp)).trans HZ6.o)));generalize ((w6.setCell ⟨w.heap.size+1,1,none⟩ (.int .i64 vv.1)).setCell ⟨w.heap.size+1,2,none⟩ (.int .i64 vv.2.1)).setCell ⟨w.heap.size+1,3,none⟩ (.string vv.2.2)=W7 at*;clear cA6 fA6 HZ6 Q6 c6 hp6;have c7:=Q7.o.c0;have hp7:=Q7.o.lt;go_wp2_with fail;refine(HN3.o _ Q7.o).mono ?_;rintro _ w8 ⟨rfl,h8,k8⟩;have Q8:=Aa (Q7.o.call h8 k8);have hZ8:=k8.at HZ7.o (by omega);have hA8:=k8.at HAS.o (by omega);have cA8:=Ac hA8;have fA8:=Am hA8;have hlA8:=Ab hA8;have cZ8:=Ac hZ8;have fZ8:=Am hZ8;have hlZ8:=Ab hZ8;clear h8 k8 hZ8 hA8 Q7 HZ7 HAS c7;go_wp2_with fail;refine bodyPost_ret (v:=.agg #[.int .i64 dk,.int .i64 vv.1,.int .i64 vv.2.1,.string vv.2.2]) (by simp[results,results210,go_sem, *]) rfl ⟨rfl,?_⟩;repeat' with_reducible first|exact Q8.o|refine LQ.al ?_ _|refine LQ.st ?_ _ (tL _) _
theorem infoCond:(prog.info? 186).map (fun i=>(i.zero,i.size,i.bytes))=some (some (.agg #[.int .i64 0,.int .i64 0,.int .i64 0,.string ⟨#[]⟩]),4,40):=by kernel_rfl
theorem RS(h:LQ w w p b G u v s):
 Calls prog 169 #[.pointer (some ⟨p,0,none⟩)] w fun e w'=>∃x,e=.returned x/\w'.ownsRow w.heap.size 186 4 x (qConds 801 s).1.length ((qConds 801 s).1.flatMap cL)/\(qConds 801 s).1.length<=802/\LQ w w' p b G u v (qConds 801 s).2:=by
 obtain⟨i0,hi,hz0,hz1,hz2⟩:=info_parts infoCond;have Q0:=Aa h;have hpl:=h.lt;have c:=h.c0;have HA:=Aa (fun W s' (hW:LQ w W p b G u v s')=>oZ hW.one);have hl2:ln s<=801:=h.ps.len;clear h;obtain⟨FF,HQ⟩:∃FF,Hi (qConds 801 s=FF):=⟨_,Aa rfl⟩;rw[HQ.o];go_enter func169,ntmps169;go_wp2_with fail;go_loopg [3] (ln s) (fun k x wr=>∃(L:List GZ) (s':St) (f:Nat),ln s'<=k/\ln s'<=f/\LQ w wr p b G u v s'/\wr.ownsRow w.heap.size 186 4 x L.length (L.flatMap cL)/\L.length+ln s'<=802/\FF=(L++(qConds f s').1,(qConds f s').2))
 case atStart=>exact⟨[],s,801,tL _,hl2,Q0.o,uA _ _ _ _,by simp;omega,HQ.o.symm⟩
 case round=>
  obtain⟨L,s',f,hlk,hlf,q,hown,hLn,hrel⟩:=hrel;obtain⟨aL',cL',rfl⟩:=An hown;have HM:=Aa hrel;have QR:=Aa q;have HO:=Aa hown;have c4:=q.c0;have hp4:=q.lt;have hSE:=Aa (Ev wr b G s' 11 q.ps);clear q hown hrel;cases hx:Ad s' 11
  ·rw[hx]at hSE
   have HE:=Aa (show FF=(L,s')from by
    rw[HM.o,WN f s' hx];simp)
   clear hx HM HQ HA;go_wp2_with fail;refine hSE.o.mono ?_;rintro _ w5 ⟨rfl,h5,k5⟩;go_wp2_with fail;go_ret;exact⟨_,rfl,by rw[HE.o];exact QR.o.own k5 HO.o (tL _),by rw[HE.o];show L.length<=802;omega,by rw[HE.o];exact QR.o.call h5 k5⟩
  ·rw[hx]at hSE
   have hlt1:=EG s' 11 (by decide) hx;have hlf1:=Vn (tl s');obtain⟨f',rfl⟩:∃f',f=f'+1:=⟨f-1,by omega⟩;have HE:=Aa (show FF=(L++((qCond (tl s')).1::(qConds f' (qCond (tl s')).2).1),(qConds f' (qCond (tl s')).2).2)from by
    rw[HM.o,qConds,uC hx])
   have HA2:=Aa (HA.o · (tl s'));have hSE:=Aa (show Calls prog 117 #[.pointer (some ⟨b,0,none⟩),.int .i64 11] wr (fun e w'=>e=.returned (.bool true)/\PS w' b G (tl s')/\Ag b wr w')from hSE.o);clear hx HM HA;generalize qCond (tl s')=f1 at*;generalize tl s'=s4 at*;obtain⟨⟨gn,gk,gm,gt⟩,s3⟩:=f1;simp only[]at HA2 HE hlf1;go_wp2_with fail;refine hSE.o.mono ?_;rintro _ w5 ⟨rfl,h5,k5⟩;have Q5:=Aa (QR.o.call h5 k5);have HO5:=Aa (QR.o.own k5 HO.o (tL _));clear h5 k5;go_wp2_with fail;refine(HA2.o _ Q5.o).mono ?_;rintro _ w6 ⟨rfl,q6⟩;have hO6:=Q5.o.own q6.kp HO5.o (tL _);have Q6:=Aa (Q5.o.tr q6);have z6:=Q6.o.kp.size;have HLO:=Aa (fun k hk=>(hO6.lt k hk).1);clear q6 HO5 Q5;go_wp2_with (at_builtin;refine wpList_append_own _ rfl _ _ 175 rfl w.heap.size 186 i0 _ 4 40 underlying175 hi hz0 hz1 hz2 rfl (by decide) _ _ _ rfl (hO6.alloc _) ⟨w6.heap.size,0,none⟩ 1 1 [.int .i64 gn,.int .i64 gk,.int .i64 gm,.string gt] rfl rfl (Cs _ _ _ _ (by simp)) (Wi rfl rfl rfl rfl) (by unfold maxLen;omega) (by omega) (by simp;omega) ?_;intro v' w7 hown' hgrow _);have Q7:=Aa ((Q6.o.al _).gr hgrow HLO.o);have HO7:=Aa hown';clear hown' hgrow hO6;go_roundg (ln s3)
   case measure=>omega
   case rel=>
    refine⟨L++[(gn,gk,gm,gt)],s3,f',tL _,by omega,Q7.o,by rw[List.flatMap_append,uE];exact HO7.o,by simp;omega,by rw[HE.o];simp⟩
end
def Mi(x:DS):List Value:=[.string x.name,.string x.scalar,.bool x.strict,.bool x.has,.int .i64 x.dflt.1,.int .i64 x.dflt.2.1,.string x.dflt.2.2]
def Sq(x:DS):Value:=.agg #[.string x.name,.string x.scalar,.bool x.strict,.bool x.has,.int .i64 x.dflt.1,.int .i64 x.dflt.2.1,.string x.dflt.2.2]
section
variable {w:World} {p b G:Nat} {u v:Value} {s:St}
theorem pJ(h:LQ w w p b G u v s):
 Calls prog 118 #[.pointer (some ⟨p,0,none⟩)] w fun e w'=>e=.returned (Sq (CP s).1)/\LQ w w' p b G u v (CP s).2:=by
 have Q0:=Aa h;have hlt:=h.ps.lt;have hpl:=h.lt;have c:=h.c0;have HQ:=Aa (CP.eq_1 s);generalize CP s=FF at*;have HN1:=Aa (fun W (hW:LQ w W p b G u v s)=>(show Calls prog _ _ W (fun e w'=>_/\PS w' b G (nK s 6)/\_)from Cc W b G s 6 hW.ps));generalize nK s 6=s1 at*;have HM1:=Aa (fun W (hW:LQ w W p b G u v s1)=>DX W b G s1 hW.ps);generalize nm s1=n1 at*;generalize nmT s1=t1 at*;have HN2:=Aa (fun W (hW:LQ w W p b G u v t1)=>(show Calls prog _ _ W (fun e w'=>_/\PS w' b G (nK t1 9)/\_)from Cc W b G t1 9 hW.ps));generalize nK t1 9=s2 at*;have HM2:=Aa (fun W (hW:LQ w W p b G u v s2)=>DX W b G s2 hW.ps);generalize nm s2=n2 at*;generalize nmT s2=s3 at*;have HT1:=Aa (fun W (hW:LQ w W p b G u v s3)=>Ev W b G s3 5 hW.ps);generalize mayT s3 (Ad s3 5)=s4 at*;generalize Ad s3 5=strict at*;have HT2:=Aa (fun W (hW:LQ w W p b G u v s4)=>Ev W b G s4 10 hW.ps);generalize mayT s4 (Ad s4 10)=s5 at*;generalize Ad s4 10=has at*;have HV:=Aa (fun W (hW:LQ w W p b G u v s5)=>NK W b G s5 hW.ps);generalize valK s5=vv at*;generalize pVal s5=s6 at*;generalize (Ay s 6).k=nk at*;generalize (Ay s 6).n=nn at*;generalize (Ay s 6).s=ny at*;generalize (Ay t1 9).k=nk4 at*;generalize (Ay t1 9).n=nn4 at*;generalize (Ay t1 9).s=ny4 at*;clear h;go_enter func118,ntmps118;go_wp2_with fail;refine(HN1.o _ (Q0.o.al _)).mono ?_;rintro _ w1 ⟨rfl,h1,k1⟩;have Q1:=Aa ((Q0.o.al _).call h1 k1);have HZ1:=Aa (k1.at (tS w _) (by omega));have hl1:=Ab HZ1.o;have c1:=Q1.o.c0;have hp1:=Q1.o.lt;clear h1 k1 HN1 Q0;go_wp2_with fail;refine(HM1.o _ Q1.o).mono ?_;rintro _ w2 ⟨rfl,h2,k2⟩;have Q2:=Aa (Q1.o.call h2 k2);have HZ2:=Aa (k2.at HZ1.o (by omega));have hl2:=Ab HZ2.o;have c2:=Q2.o.c0;have hp2:=Q2.o.lt;have hb2:=h2.lt;have hw2:w.heap.size<=w2.heap.size:=Nat.le_of_lt hl2;clear h2 k2 HM1 Q1 HZ1 c1 hp1 hl1;go_wp2_with fail;refine(HN2.o _ (Q2.o.al _)).mono ?_;rintro _ w3 ⟨rfl,h3,k3⟩;have Q3:=Aa ((Q2.o.al _).call h3 k3);have HZ3:=Aa (k3.at ((AK w2 _ _ hl2).trans HZ2.o) (by omega));have HA3:=Aa (k3.at (tS w2 _) (by omega));have c3:=Q3.o.c0;have hp3:=Q3.o.lt;clear h3 k3 HN2 Q2 HZ2 c2 hp2;go_wp2_with fail;refine(HM2.o _ Q3.o).mono ?_;rintro _ w4 ⟨rfl,h4,k4⟩;have q4:=Q3.o.call h4 k4;have hA4:=k4.at HA3.o (by omega);have HZ4:=Aa (DT (i:=1) (k4.at HZ3.o (by omega)) (show w.heap.size≠w2.heap.size by omega) (.string n2));have HA4:=Aa (AI hA4 1 (.string n2));have Q4:=Aa (q4.st ⟨w2.heap.size,1,none⟩ hw2 (.string n2));have cA4:=Ac hA4;have fA4:=Am hA4;have hlA4:=Ab hA4;have c4:=q4.c0;have hp4:=q4.lt;clear h4 k4 HM2 Q3 HZ3 HA3 c3 hp3 hA4 q4;go_wp2_with fail;generalize w4.setCell ⟨w2.heap.size,1,none⟩ (.string n2)=W4 at*;clear cA4 fA4 hlA4 c4 hp4;refine(HT1.o _ Q4.o).mono ?_;rintro _ w5 ⟨rfl,h5,k5⟩;have q5:=Q4.o.call h5 k5;have hA5:=k5.at HA4.o (by omega);have HZ5:=Aa (DT (i:=2) (k5.at HZ4.o (by omega)) (show w.heap.size≠w2.heap.size by omega) (.bool strict));have HA5:=Aa (AI hA5 2 (.bool strict));have Q5:=Aa (q5.st ⟨w2.heap.size,2,none⟩ hw2 (.bool strict));have cA5:=Ac hA5;have fA5:=Am hA5;have hlA5:=Ab hA5;have c5:=q5.c0;have hp5:=q5.lt;clear h5 k5 HT1 Q4 HZ4 HA4 hA5 q5;go_wp2_with fail;generalize w5.setCell ⟨w2.heap.size,2,none⟩ (.bool strict)=W5 at*;clear cA5 fA5 hlA5 c5 hp5;refine(HT2.o _ Q5.o).mono ?_;rintro _ w6 ⟨rfl,h6,k6⟩;have q6:=Q5.o.call h6 k6;have hA6:=k6.at HA5.o (by omega);have HZ6:=Aa (DT (i:=3) (k6.at HZ5.o (by omega)) (show w.heap.size≠w2.heap.size by omega) (.bool has));have HA6:=Aa (AI hA6 3 (.bool has));have Q6:=Aa (q6.st ⟨w2.heap.size,3,none⟩ hw2 (.bool has));have cA6:=Ac hA6;have fA6:=Am hA6;have hlA6:=Ab hA6;have c6:=q6.c0;have hp6:=q6.lt;clear h6 k6 HT2 Q5 HZ5 HA5 hA6 q6;cases has
 ·have HQ:=Aa (show FF=(⟨n1,n2,strict,false,(0,0,⟨#[]⟩)⟩,s5)from HQ.o)
  have cZ:=Ac HZ6.o;have fZ:=Am HZ6.o;have hlZ:=Ab HZ6.o;have cA:=Ac HA6.o;have fA:=Am HA6.o;have hlA:=Ab HA6.o;go_wp2_with fail;rw[HQ.o];refine bodyPost_ret (v:=.agg #[.string n1,.string n2,.bool strict,.bool false,.int .i64 0,.int .i64 0,.string ⟨#[]⟩]) (by simp[results,results118,go_sem, *]) rfl ⟨rfl,?_⟩;repeat' with_reducible first|exact Q6.o|refine LQ.al ?_ _|refine LQ.st ?_ _ (tL _) _
 ·have HQ2:=Aa (show FF=(⟨n1,n2,strict,true,vv⟩,s6)from HQ.o)
  clear HQ;go_wp2_with fail;generalize w6.setCell ⟨w2.heap.size,3,none⟩ (.bool true)=W6 at*;clear cA6 fA6 hlA6 c6 hp6;refine(HV.o _ Q6.o).mono ?_;rintro _ w7 ⟨rfl,q7⟩;have hA7:=q7.kp.at HA6.o (by omega);have hZ7:=q7.kp.at HZ6.o (by omega);have Q7:=Aa (Q6.o.kt q7);have cA7:=Ac hA7;have fA7:=Am hA7;have hlA7:=Ab hA7;have cZ7:=Ac hZ7;have fZ7:=Am hZ7;have wY:=Ab hZ7;clear q7 HV Q6 HA6 HZ6 hA7 hZ7;go_wp2_with fail;rw[HQ2.o];refine bodyPost_ret (v:=.agg #[.string n1,.string n2,.bool strict,.bool true,.int .i64 vv.1,.int .i64 vv.2.1,.string vv.2.2]) (by simp[results,results118,go_sem, *]) rfl ⟨rfl,?_⟩;repeat' with_reducible first|exact Q7.o|refine LQ.al ?_ _|refine LQ.st ?_ _ (tL _) _|refine LQ.st ?_ _ hw2 _
end
abbrev kQ:List TypeId:=[155,100,80,89]
abbrev UG:List TypeId:=[155,103,100,80,89]
def pV(k:Nat):Value:=.pointer (some ⟨k,0,none⟩)
structure QS(X:World)(B0 p b q G:Nat)(s:St)(d:Nat)(vO vF:Value)(ps:List Nat):Prop where
 rd:PS X b G s
 pa:X.heap[p]?=some (.cells #[.pointer (some ⟨b,0,none⟩),.pointer (some ⟨q,0,none⟩),.int .i64 d] 100 (0,0))
 qy:∃vP,X.heap[q]?=some (.cells #[vO,vF,vP] 80 (0,0))/\X.ownsRow B0 89 1 vP ps.length (ps.map pV)
 lb:B0<=b
 lp:B0<=p
 lq:B0<=q
def AA(B:Nat)(K:List TypeId)(X Y:World):Prop:=X.heap.size<=Y.heap.size/\∀(k:Nat) (cs:Array Value) (t:TypeId) (fr:Nat×Nat),B<=k->X.heap[k]?=some (.cells cs t fr)->t∈K->Y.heap[k]?=some (.cells cs t fr)
section
variable {w X Y Z:World} {B B0 B1 p b q G d N F n size:Nat} {s s':St} {vO vF v:Value} {ps:List Nat} {K:List TypeId} {T e:TypeId} {cs:Array Value} {fr:Nat×Nat} {xs:List Value}
theorem AA.below(h:vE X Y):AA B K X Y:=⟨h.size,fun k _ _ _ _ hk _=>(h.block k (Ab hk)).trans hk⟩
theorem AA.alloc(o:Obj):AA B K X (X.alloc o):=.below ((tM _ _).alloc (tL _) _)
theorem AA.drew:AA B K X X.drew:=⟨tL _,fun _ _ _ _ _ h _=>h⟩
theorem AA.trans(h:AA B K X Y)(k:AA B K Y Z):AA B K X Z:=⟨tQ h.1 k.1,fun i cs t fr hb hi ht=>k.2 i cs t fr hb (h.2 i cs t fr hb hi ht) ht⟩
theorem AA.set(hN:X.heap[N]?=some (.cells cs T fr))(hT:T∉K)(i:Nat)(u:Value):AA B K X (X.setCell ⟨N,i,none⟩ u):=
 ⟨by simp[World.setCell],fun k cs' t fr' _ hk ht=>(tX _ _ _ _ (show k≠N from fun e=>by subst e;rw[hN]at hk;cases hk;exact hT ht)).trans hk⟩
theorem AA.setB(hN:N<B)(i:Nat)(u:Value):AA B K X (X.setCell ⟨N,i,none⟩ u):=
 ⟨by simp[World.setCell],fun k _ _ _ hb hk _=>(tX _ _ _ _ (show k≠N by omega)).trans hk⟩
theorem AA.ft{K':List TypeId}(h:FT B0 K' X Y)(hK:∀t∈K,t∉K'):AA B K X Y:=⟨h.size,fun _ _ t _ _ hk ht=>h.at hk (hK t ht)⟩
theorem AA.keep(h:Ag b X Y)(hb:X.heap[b]?=some (.cells cs T fr))(hT:T∉K):AA B K X Y:=
 ⟨h.size,fun k cs' t fr' _ hk ht=>(h.block k (Ab hk) (fun e=>by subst e;rw[hb]at hk;cases hk;exact hT ht)).trans hk⟩
theorem AA.keepB(h:Ag b X Y)(hb:b<B):AA B K X Y:=
 ⟨h.size,fun k _ _ _ hB hk _=>(h.block k (Ab hk) (by omega)).trans hk⟩
theorem AA.grown(hg:X.grownBy Y v.ownBlock)(ho:X.ownsRow B0 e size v n xs)(he:e∉K):AA B K X Y:=
 ⟨hg.size,fun k cs t fr _ hk ht=>(hg.block k (Ab hk) (fun q=>by
  rcases ho.2 with⟨y,_⟩|⟨g,cap,cur,hv,_,hh,_⟩
  ·rw[y]at q;cases q
  ·rw[hv]at q
   have e1:k=g:=tY q;subst e1;rw[hh]at hk;cases hk;exact he ht)).trans hk⟩
theorem AA.own(h:AA B K X Y)(ho:X.ownsRow B0 e size v n xs)(he:e∈K)(hB:B<=B0):Y.ownsRow B0 e size v n xs:=by
 refine⟨ho.1,?_⟩;rcases ho.2 with q|⟨g,cap,cur,hv,hg,hh,r⟩
 ·exact Or.inl q
 ·exact Or.inr ⟨g,cap,cur,hv,hg,h.2 g _ _ _ (tQ hB hg) hh he,r⟩
theorem PS.typ(h:PS X b G s)(hY:AA 0 K X Y)(h1:155∈K)(h2:103∈K):PS Y b G s:=by
 obtain⟨v,e1,e2,e3⟩:=h.st;refine⟨⟨v,hY.2 _ _ _ _ (tU _) e1 h1,?_,e3⟩,h.len,h.wf,tV h.glt hY.1⟩;rcases e2 with e2|⟨off,cap,cur,g1,g2,g3,g4⟩
 ·exact Or.inl e2
 ·exact Or.inr ⟨off,cap,cur,g1,g2,hY.2 _ _ _ _ (tU _) g3 h2,g4⟩
theorem QS.typ(h:QS X B0 p b q G s d vO vF ps)(hY:AA 0 UG X Y):QS Y B0 p b q G s d vO vF ps:=by
 obtain⟨vP,h1,h2⟩:=h.qy;exact⟨h.rd.typ hY (by decide) (by decide),hY.2 _ _ _ _ (tU _) h.pa (by decide),⟨vP,hY.2 _ _ _ _ (tU _) h1 (by decide),hY.own h2 (by decide) (tU _)⟩,h.lb,h.lp,h.lq⟩
theorem QS.al(h:QS X B0 p b q G s d vO vF ps)(o:Obj):QS (X.alloc o) B0 p b q G s d vO vF ps:=h.typ (.alloc o)
theorem QS.dr(h:QS X B0 p b q G s d vO vF ps):QS X.drew B0 p b q G s d vO vF ps:=h.typ .drew
theorem QS.be(h:QS X B0 p b q G s d vO vF ps)(k:vE X Y):QS Y B0 p b q G s d vO vF ps:=h.typ (.below k)
theorem QS.st(h:QS X B0 p b q G s d vO vF ps)(hN:X.heap[N]?=some (.cells cs T fr))(hT:T∉UG)(i:Nat)(u:Value):QS (X.setCell ⟨N,i,none⟩ u) B0 p b q G s d vO vF ps:=h.typ (.set hN hT i u)
theorem QS.lq1(h:QS X B0 p b q G s d vO vF ps):LQ X X p b G (.pointer (some ⟨q,0,none⟩)) (.int .i64 d) s:=⟨h.rd.pk,h.pa,Ab h.pa⟩
theorem QS.call(h:QS X B0 p b q G s d vO vF ps)(hp:PS Y b G s')(k:Ag b X Y):QS Y B0 p b q G s' d vO vF ps:=by
 obtain⟨c,hc⟩:=h.rd.ty;obtain⟨vP,h1,h2⟩:=h.qy;have hy:AA 0 [100,80,89] X Y:=AA.keep k hc (by decide);exact⟨hp,hy.2 _ _ _ _ (tU _) h.pa (by decide),⟨vP,hy.2 _ _ _ _ (tU _) h1 (by decide),hy.own h2 (by decide) (tU _)⟩,h.lb,h.lp,h.lq⟩
theorem QS.rdr(h:QS w B0 p b q G s d vO vF ps)(k:LQ w X p b G (.pointer (some ⟨q,0,none⟩)) (.int .i64 d) s'):QS X B0 p b q G s' d vO vF ps:=h.call k.ps k.kp
theorem QS.ft(h:QS w B0 p b q G s d vO vF ps)(k:Ag b w X)(hw:B0<=w.heap.size):FT B0 kQ w X:=by
 obtain⟨c,hc⟩:=h.rd.ty;exact FT.of_keep k hc (by decide) h.lb hw
theorem QS.lt(h:QS X B0 p b q G s d vO vF ps):B0<=X.heap.size:=Nat.le_of_lt (Nat.lt_of_le_of_lt h.lb h.rd.lt)
end
theorem Fx{w:World}{B n s:Nat}{e:TypeId}{v:Value}{xs:List Value}(h:w.ownsRow B e s v n xs)(k:Nat)(hk:v.ownBlock=some k):∃cur,w.heap[k]?=some (.cells cur e (0,0)):=by
 rcases h.2 with⟨rfl,_⟩|⟨g,c,cur,rfl,_,hh,_⟩
 ·simp[Value.ownBlock]at hk
 ·simp[Value.ownBlock]at hk;subst hk;exact⟨cur,hh⟩
theorem Bv{w:World}{base size n F:Nat}{e T:TypeId}{v:Value}{xs:List Value}{cs:Array Value}{fr:Nat×Nat}(ho:w.ownsRow base e size v n xs)(hF:w.heap[F]?=some (.cells cs T fr))(hT:T≠e):v.ownBlock≠some F:=fun x=>by
 rcases ho.2 with⟨y,_⟩|⟨g,cap,cur,hv,_,hh,_⟩
 ·rw[y]at x;cases x
 ·rw[hv]at x
  have e1:g=F:=tY x;subst e1;rw[hh]at hF;cases hF;exact hT rfl
def AM(pp:List Nat):Option Nat->Value
 |none=>.pointer none
 |some i=>.pointer (pp[i]?.map (fun k=>⟨k,0,none⟩))
abbrev SX:=Aq×Value×Value
def sL(pp:List Nat)(x:SX):List Value:=[.int .i64 x.1.kind,.string x.1.key,.string x.1.name,x.2.1,x.2.2,AM pp x.1.part]
structure Dr(X:World)(B0:Nat)(n:Nat)(x:SX):Prop where
 a:X.ownsRow B0 184 4 x.2.1 x.1.args.length (x.1.args.flatMap aL)
 c:X.ownsRow B0 186 4 x.2.2 x.1.conds.length (x.1.conds.flatMap cL)
 al:x.1.args.length<=802
 cl:x.1.conds.length<=802
 p:∀i,x.1.part=some i->i<n
structure CH(X:World)(B0:Nat)(pp:List Nat)(i:Nat)(P:Ai):Prop where
 ex:∃k vS,∃L:List SX,pp[i]?=some k/\X.heap[k]?=some (.cells #[.string P.typ,.int .i64 i,vS] 171 (0,0))/\B0<=k/\L.map Prod.fst=P.sels/\X.ownsRow B0 177 6 vS L.length (L.flatMap (sL pp))/\L.length<=1000/\∀x∈L,Dr X B0 pp.length x
abbrev kP:List TypeId:=[171,177,184,186]
section
variable {X Y:World} {B0 B1 n m:Nat} {pp new:List Nat} {x:SX} {i:Nat} {P:Ai}
theorem Dr.typ(h:Dr X B0 n x)(hY:AA B0 kP X Y)(hn:n<=m):Dr Y B0 m x:=⟨hY.own h.a (by decide) (tL _),hY.own h.c (by decide) (tL _),h.al,h.cl,fun i e=>tV (h.p i e) hn⟩
theorem RK(o:Option Nat)(h:∀i,o=some i->i<pp.length):AM (pp++new) o=AM pp o:=by
 cases o with
 |none=>rfl
 |some i=>simp[AM,uI (h i rfl)]
theorem qZ(h:Dr X B0 pp.length x):sL (pp++new) x=sL pp x:=by unfold sL;rw[RK _ h.p]
theorem QH{L:List SX}(h:∀x∈L,Dr X B0 pp.length x):L.flatMap (sL (pp++new))=L.flatMap (sL pp):=by
 induction L with
 |nil=>rfl
 |cons x l ih=>rw[List.flatMap_cons,List.flatMap_cons,qZ (h x uX),ih (fun y hy=>h y (uW _ hy))]
theorem CH.typ(h:CH X B0 pp i P)(hY:AA B0 kP X Y):CH Y B0 (pp++new) i P:=by
 obtain⟨k,vS,L,h1,h2,h3,h4,h5,h6,h7⟩:=h.ex;have hl:i<pp.length:=by
  rcases Nat.lt_or_ge i pp.length with a|a
  ·exact a
  ·rw[List.getElem?_eq_none a]at h1;cases h1
 exact⟨k,vS,L,by rw[uI hl];exact h1,hY.2 _ _ _ _ h3 h2 (by decide),h3,h4,by rw[QH h7];exact hY.own h5 (by decide) (tL _),h6,fun x hx=>(h7 x hx).typ hY (by simp)⟩
theorem CH.typ'(h:CH X B0 pp i P)(hY:AA B0 kP X Y):CH Y B0 pp i P:=by
 have:=h.typ (new:=[]) hY
 rwa [List.append_nil]at this
end
theorem Dr.low{X:World}{B0 B1 n:Nat}{x:SX}(h:Dr X B0 n x)(hb:B1<=B0):Dr X B1 n x:=⟨Fw h.a hb,Fw h.c hb,h.al,h.cl,h.p⟩
theorem CH.low{X:World}{B0 B1 i:Nat}{pp:List Nat}{P:Ai}(h:CH X B0 pp i P)(hb:B1<=B0):CH X B1 pp i P:=by
 obtain⟨k,vS,L,h1,h2,h3,h4,h5,h6,h7⟩:=h.ex;exact⟨k,vS,L,h1,h2,tQ hb h3,h4,Fw h5 hb,h6,fun x hx=>(h7 x hx).low hb⟩
def Bh(X:World)(B0:Nat)(pp:List Nat)(n:Nat)(Ps:List Ai):Prop:=∀j P,Ps[j]?=some P->CH X B0 pp (n+j) P
theorem Bh.typ{X Y:World}{B0 n:Nat}{pp new:List Nat}{Ps:List Ai}(h:Bh X B0 pp n Ps)(hY:AA B0 kP X Y):Bh Y B0 (pp++new) n Ps:=fun j P hj=>(h j P hj).typ hY
theorem Bh.typ'{X Y:World}{B0 n:Nat}{pp:List Nat}{Ps:List Ai}(h:Bh X B0 pp n Ps)(hY:AA B0 kP X Y):Bh Y B0 pp n Ps:=fun j P hj=>(h j P hj).typ' hY
theorem Bh.low{X:World}{B0 B1 n:Nat}{pp:List Nat}{Ps:List Ai}(h:Bh X B0 pp n Ps)(hb:B1<=B0):Bh X B1 pp n Ps:=fun j P hj=>(h j P hj).low hb
theorem Bh.nil{X:World}{B0 n:Nat}{pp:List Nat}:Bh X B0 pp n []:=fun j P hj=>by simp at hj
theorem Bh.app{X:World}{B0 n:Nat}{pp:List Nat}{Ps Qs:List Ai}(h:Bh X B0 pp n Ps)(k:Bh X B0 pp (n+Ps.length) Qs):Bh X B0 pp n (Ps++Qs):=fun j P hj=>by
 rcases Nat.lt_or_ge j Ps.length with a|a
 ·rw[uI a]at hj;exact h j P hj
 ·rw[uJ a]at hj
  have:=k _ P hj
  rwa [show n+Ps.length+(j-Ps.length)=n+j by omega]at this
theorem Bh.cons{X:World}{B0 n:Nat}{pp:List Nat}{P:Ai}{Qs:List Ai}(h:CH X B0 pp n P)(k:Bh X B0 pp (n+1) Qs):Bh X B0 pp n (P::Qs):=Bh.app (Ps:=[P]) (fun j P' hj=>by
 cases j with
 |zero=>simp at hj;subst hj;exact h
 |succ j=>simp at hj) k
def NM(w:World)(B0 p b q G d:Nat)(vO vF:Value)(ps:List Nat)(typ:vD)(s:St)(r:List Ai×St):Prop:=
 QS w B0 p b q G s d vO vF ps->Calls prog 64 #[.pointer (some ⟨p,0,none⟩),.string typ] w fun e w'=>∃new k,e=.returned (pV k)/\(ps++new)[ps.length]?=some k/\new.length=r.1.length/\QS w' B0 p b q G r.2 d vO vF (ps++new)/\FT B0 kQ w w'/\Bh w' w.heap.size (ps++new) ps.length r.1
def Hc(w w':World)(B0 p b q G d:Nat)(vO vF:Value)(ps:List Nat)(r:Aq×List Ai×St)(e:Ending):Prop:=
 ∃new va vc,e=.returned (.agg #[.int .i64 r.1.kind,.string r.1.key,.string r.1.name,va,vc,AM (ps++new) r.1.part])/\new.length=r.2.1.length/\Dr w' w.heap.size (ps++new).length (r.1,va,vc)/\QS w' B0 p b q G r.2.2 d vO vF (ps++new)/\FT B0 kQ w w'/\Bh w' w.heap.size (ps++new) ps.length r.2.1
section
variable {w:World} {B0 p b q G d:Nat} {vO vF:Value} {ps:List Nat} {s:St}
theorem pA(part:Nat->vD->St->List Ai×St)(h:QS w B0 p b q G s d vO vF ps)(hP:∀W typ s',ln s'<=ln (nmT s)->Ad s' 14=true->NM W B0 p b q G d vO vF ps typ s' (part ps.length typ s')):
 Calls prog 168 #[.pointer (some ⟨p,0,none⟩)] w fun e w'=>Hc w w' B0 p b q G d vO vF ps (Iv part ps.length s) e:=by
 obtain⟨u,hu⟩:∃u:Value,u=.pointer (some ⟨q,0,none⟩):=⟨_,rfl⟩;obtain⟨v,hv⟩:∃v:Value,v=.int .i64 d:=⟨_,rfl⟩;have HU:=Aa (uV hu hv);have l0:LQ w w p b G u v s:=by rw[hu,hv];exact h.lq1
 have HS:=Aa h;have HP:=Aa hP;have Q0:=Aa l0;have hlt:=h.rd.lt;have hpl:=l0.lt;have hB:=h.lt;have c:=l0.c0;have HQ:=Aa (Iv.eq_1 part ps.length s);generalize Iv part ps.length s=FF at*;have HC:=Aa (fun W (hW:LQ w W p b G u v s)=>DX W b G s hW.ps);have HFN:=Aa (Em.eq_1 s);have HTK:=Aa (fun W (hW:LQ w W p b G u v (nmT s))=>Ev W b G (nmT s) 9 hW.ps);have hln1:ln (Em s).2<=ln (nmT s):=by
  rw[HFN.o];split
  ·exact tQ (AZ _) (BG _)
  ·exact tL _
 generalize Em s=fn at*;obtain⟨n2,s2⟩:=fn;simp only[]at HQ hln1;have HFA:=Aa (Gn.eq_1 s2);have HTA:=Aa (fun W (hW:LQ w W p b G u v s2)=>Ev W b G s2 7 hW.ps);have hln2:ln (Gn s2).2<=ln s2:=by
  rw[HFA.o];split
  ·exact tQ (Vl _) (BG _)
  ·exact tL _
 generalize Gn s2=fa at*;obtain⟨args,s3⟩:=fa;simp only[]at HQ hln2;have HCN:=Aa (fun W (hW:LQ w W p b G u v s3)=>RS hW.one);have hln3:=LS 801 s3;generalize qConds 801 s3=fc at*;obtain⟨conds,s4⟩:=fc;simp only[]at HQ HCN hln3;have HSE:=Aa (fun W (hW:LQ w W p b G u v s4)=>GS W b G s4 14 hW.ps);generalize nm s=n1 at*;generalize nmT s=s1 at*;clear h l0 hu hv hP;go_enter func168,ntmps168;go_wp2_with fail;refine(HC.o _ (Q0.o.al _)).mono ?_;rintro _ w1 ⟨rfl,h1,k1⟩;have Q1:=Aa ((Q0.o.al _).call h1 k1);have HZ1:=Aa (k1.at (tS w _) (by omega));have hl1:=Ab HZ1.o;have c1:=Q1.o.c0;have hp1:=Q1.o.lt;have hb1:=h1.lt;have hw1:w.heap.size<=w1.heap.size:=Nat.le_of_lt hl1;clear h1 k1 HC Q0;go_wp2_with fail;refine(HTK.o _ (Q1.o.al _)).mono ?_;rintro _ w2 ⟨rfl,h2,k2⟩;have Q2:=Aa ((Q1.o.al _).call h2 k2);have HZ2:=Aa (k2.at ((AK w1 _ _ hl1).trans HZ1.o) (by omega));have HA2:=Aa (k2.at (tS w1 _) (by omega));have c2:=Q2.o.c0;have hp2:=Q2.o.lt;have hb2:=h2.lt;clear h2 k2 HTK Q1 HZ1 c1 hp1
 go_upto_if 17 with fail
 go_cut [] (fun wc=>LQ w wc p b G u v s2/\wc.heap[w.heap.size]?=some (.cells #[.int .i64 0,.string ⟨#[]⟩,.string ⟨#[]⟩,.slice none 0 0,.slice none 0 0,.pointer none] 177 (0,0))/\wc.heap[w1.heap.size]?=some (.cells #[.int .i64 0,.string n1,.string n2,.slice none 0 0,.slice none 0 0,.pointer none] 177 (0,0)))
 case first=>
  cases e9:Ad s1 9
  ·rw[e9]at Q2 HFN
   obtain⟨e1,e2⟩:n2=n1/\s2=s1:=by have:=HFN.o;simpa using this
   subst e1 e2;go_wp2_with fail;go_meet;exact⟨Q2.o,HZ2.o,HA2.o⟩
  ·rw[e9]at Q2 HFN
   obtain⟨e1,e2⟩:n2=nm (tl s1)/\s2=nmT (tl s1):=by have:=HFN.o;simpa using this
   have Q2:=Aa (show LQ w w2 p b G u v (tl s1)from Q2.o);have HN:=Aa (DX w2 b G (tl s1) Q2.o.ps);rw[<-e1,<-e2]at HN;clear e1 e2 HFN;have cA2:=Ac HA2.o;have fA2:=Am HA2.o;have hlA2:=Ab HA2.o;go_wp2_with fail;refine HN.o.mono ?_;rintro _ w3 ⟨rfl,h3,k3⟩;have hA3:=k3.at HA2.o (by omega);have HZ3:=Aa (k3.at HZ2.o (by omega));have Q3:=Aa (Q2.o.call h3 k3);have HA3:=Aa (AI hA3 2 (.string n2));have cA3:=Ac hA3;have fA3:=Am hA3;have hlA3:=Ab hA3;clear h3 k3 hA3;go_wp2_with fail;go_meet;exact⟨Q3.o.st _ hw1 _,DT HZ3.o (by omega) _,HA3.o⟩
 case rest=>
 obtain⟨q3,hZ,hA⟩:=hcut;have Q3:=Aa q3;have HZ3:=Aa hZ;have HA3:=Aa hA;have c3:=q3.c0;have hp3:=q3.lt;clear q3 hZ hA HFN HZ2 HA2 Q2 c2 hp2 hb2;go_wp2_with fail;refine(HTA.o _ Q3.o).mono ?_;rintro _ w4 ⟨rfl,h4,k4⟩;have Q4:=Aa (Q3.o.call h4 k4);have HZ4:=Aa (k4.at HZ3.o (by omega));have HA4:=Aa (k4.at HA3.o (by omega));have c4:=Q4.o.c0;have hp4:=Q4.o.lt;have hb4:=h4.lt;clear h4 k4 HTA Q3 HZ3 HA3 c3 hp3
 go_upto_if 28 with fail
 go_cut [] (fun wd=>∃va,LQ w wd p b G u v s3/\wd.heap[w.heap.size]?=some (.cells #[.int .i64 0,.string ⟨#[]⟩,.string ⟨#[]⟩,.slice none 0 0,.slice none 0 0,.pointer none] 177 (0,0))/\wd.heap[w1.heap.size]?=some (.cells #[.int .i64 0,.string n1,.string n2,va,.slice none 0 0,.pointer none] 177 (0,0))/\wd.ownsRow w.heap.size 184 4 va args.length (args.flatMap aL)/\args.length<=802)
 case first=>
  cases e9:Ad s2 7
  ·rw[e9]at Q4 HFA
   obtain⟨e1,e2⟩:args=[]/\s3=s2:=by have:=HFA.o;simpa using this
   subst e1 e2;go_wp2_with fail;go_meet;exact⟨_,Q4.o,HZ4.o,HA4.o,uA _ _ _ _,by simp⟩
  ·rw[e9]at Q4 HFA
   have Q4:=Aa (show LQ w w4 p b G u v (tl s2)from Q4.o);have HFA:=Aa (show(args,s3)=qArgs (tl s2)from HFA.o);have HN:=Aa (oX Q4.o.one);rw[<-HFA.o]at HN;clear HFA;have cA4:=Ac HA4.o;have fA4:=Am HA4.o;have hlA4:=Ab HA4.o;go_wp2_with fail;refine HN.o.mono ?_;rintro _ w5 ⟨va,rfl,ho,hal,q5⟩;have hA5:=q5.kp.at HA4.o (by omega);have HZ5:=Aa (q5.kp.at HZ4.o (by omega));have Q5:=Aa (Q4.o.tr q5);have HA5:=Aa (AI hA5 3 va);have HO5:=Aa (Fw ho Q4.o.kp.size);have HON:=Aa (Bv ho hA5 (by decide));have cA5:=Ac hA5;have fA5:=Am hA5;have hlA5:=Ab hA5;obtain⟨aV,cV,rfl⟩:=An ho;clear q5 hA5 ho;go_wp2_with fail;go_meet;exact⟨_,Q5.o.st _ hw1 _,DT HZ5.o (by omega) _,HA5.o,Di HO5.o HON.o _ _,hal⟩
 case rest=>
 obtain⟨va,q5,hZ,hA,ho,hal⟩:=hcut;obtain⟨aV,cV,rfl⟩:=An ho;have Q5:=Aa q5;have HZ5:=Aa hZ;have HA5:=Aa hA;have HO5:=Aa ho;clear q5 hZ hA ho HFA HZ4 HA4 Q4 c4 hp4 hb4;go_wp2_with fail;refine(HCN.o _ Q5.o).mono ?_;rintro _ w6 ⟨vc,rfl,ho6,hcl,q6⟩;obtain⟨aC,cC,rfl⟩:=An ho6;have hA6:=q6.kp.at HA5.o (by omega);have HA6:=Aa (AI hA6 4 (.slice aC conds.length cC));have HZ6:=Aa (DT (i:=4) (q6.kp.at HZ5.o (by omega)) (show w.heap.size≠w1.heap.size by omega) (.slice aC conds.length cC));have HOA:=Aa (Di (i:=4) (Q5.o.own q6.kp HO5.o (tL _)) (Bv (Q5.o.own q6.kp HO5.o (tL _)) hA6 (by decide)) (.slice aC conds.length cC));have HOC:=Aa (Di (i:=4) (Fw ho6 Q5.o.kp.size) (Bv ho6 hA6 (by decide)) (.slice aC conds.length cC));have q6':=Q5.o.tr q6;have Q6:=Aa (q6'.st ⟨w1.heap.size,4,none⟩ hw1 (.slice aC conds.length cC));have cA6:=Ac hA6;have fA6:=Am hA6;have hlA6:=Ab hA6;have c6:=q6'.c0;have hp6:=q6'.lt;clear q6 hA6 ho6 HCN Q5 HZ5 HA5 HO5 q6';go_wp2_with fail;generalize w6.setCell ⟨w1.heap.size,4,none⟩ (.slice aC conds.length cC)=W6 at*;clear cA6 fA6 hlA6 c6 hp6;refine(HSE.o _ Q6.o).mono ?_;rintro _ w7 ⟨rfl,b7⟩;have Q7:=Aa (Q6.o.be b7);have HA7:=Aa ((b7.block _ (Ab HA6.o)).trans HA6.o);have HZ7:=Aa ((b7.block _ (Ab HZ6.o)).trans HZ6.o);have HOA7:=Aa (AT HOA.o b7);have HOC7:=Aa (AT HOC.o b7);clear b7 HSE Q6 HA6 HZ6 HOA HOC;have HQ7:=Aa (show QS w7 B0 p b q G s4 d vO vF ps from HS.o.rdr (by have:=Q7.o;rw[HU.o.1,HU.o.2]at this;exact this));have HF7:=Aa (show FT B0 kQ w w7 from HS.o.ft Q7.o.kp hB);clear Q7;have hBw:=hB;cases e14:Ad s4 14
 ·rw[e14]at HQ
  have HQ2:=Aa (show FF=(⟨0,n1,n2,args,conds,none⟩,[],s4)from HQ.o);clear HQ HP;have FIN:=Aa (fun Y (kz:Ag w.heap.size w7 Y)=>(show Hc w Y B0 p b q G d vO vF ps (⟨0,n1,n2,args,conds,none⟩,[],s4) (.returned (.agg #[.int .i64 0,.string n1,.string n2,.slice aV args.length cV,.slice aC conds.length cC,.pointer none]))from
   ⟨[],.slice aV args.length cV,.slice aC conds.length cC,rfl,rfl,⟨(AA.keep (B:=0) (K:=[184]) kz HZ7.o (by decide)).own HOA7.o (by decide) (tU _),(AA.keep (B:=0) (K:=[186]) kz HZ7.o (by decide)).own HOC7.o (by decide) (tU _),hal,hcl,fun i e=>by cases e⟩,by rw[List.append_nil];exact HQ7.o.typ (AA.keep kz HZ7.o (by decide)),HF7.o.kn kz (tL _) hBw,Bh.nil⟩))
  have cA:=Ac HA7.o;have cZ:=Ac HZ7.o;have fZ:=Am HZ7.o;have hlA:=Ab HA7.o;have hlZ:=Ab HZ7.o;go_wp2_with fail;rw[HQ2.o];refine bodyPost_ret (v:=.agg #[.int .i64 0,.string n1,.string n2,.slice aV args.length cV,.slice aC conds.length cC,.pointer none]) (by simp[results,results168,go_sem, *]) rfl ?_;refine FIN.o _ ?_;repeat' with_reducible first|exact Ag.refl _ _|refine Ag.setCell ?_ _ _
 ·rw[e14]at HQ
  have yK:=Ab HA7.o;have wY:=Ab HZ7.o;have hw7:w.heap.size<=w7.heap.size:=Nat.le_of_lt wY;have HPC:=Aa (HP.o w7 ⟨#[]⟩ s4 (by omega) e14 HQ7.o);generalize part ps.length ⟨#[]⟩ s4=pr at*;obtain⟨Ps,s5⟩:=pr;have HQ2:=Aa (show FF=(⟨0,n1,n2,args,conds,some ps.length⟩,Ps,s5)from HQ.o);clear HQ HP e14;simp only[]at HPC;go_wp2_with fail;refine HPC.o.mono ?_;rintro _ w8 ⟨new,k,rfl,hk,hnl,qs8,ft8,pp8⟩;have hA8:=ft8.at HA7.o (by decide);have HA8:=Aa (AI hA8 5 (pV k));have HZ8:=Aa (DT (i:=5) (ft8.at HZ7.o (by decide)) (show w.heap.size≠w1.heap.size by omega) (pV k));have HF8:=Aa ((HF7.o.trans ft8).sn hBw ⟨w1.heap.size,5,none⟩ hw1 (pV k));have HOA8:=Aa (Di (i:=5) (ft8.own HOA7.o (by decide)) (Bv (ft8.own HOA7.o (by decide)) hA8 (by decide)) (pV k));have HOC8:=Aa (Di (i:=5) (ft8.own HOC7.o (by decide)) (Bv (ft8.own HOC7.o (by decide)) hA8 (by decide)) (pV k));have HQ8:=Aa (qs8.st hA8 (by decide) 5 (pV k));have xK:=Aa (pp8.typ' (AA.setB yK 5 (pV k)));have HPK:=Aa (show AM (ps++new) (some ps.length)=pV k from by show Value.pointer _=_;rw[hk];rfl);have hlt8:ps.length<(ps++new).length:=by
   rcases Nat.lt_or_ge ps.length (ps++new).length with a|a
   ·exact a
   ·rw[List.getElem?_eq_none a]at hk;cases hk
  have HNL:=Aa (uV hnl hlt8);have cA:=Ac hA8;have fA:=Am hA8;have hlA:=Ab hA8;have hZ8:=ft8.at HZ7.o (by decide);have cZ:=Ac hZ8;have fZ:=Am hZ8;have hlZ:=Ab hZ8;unfold pV at HA8 HZ8 HF8 HOA8 HOC8 HQ8 xK HPK;clear qs8 ft8 pp8 hA8 HPC HA7 HZ7 HOA7 HOC7 HQ7 HF7 hk hnl hlt8 hZ8;unfold pV;have FIN:=Aa (fun Y (kz:Ag w.heap.size (w8.setCell ⟨w1.heap.size,5,none⟩ (.pointer (some ⟨k,0,none⟩))) Y)=>(show Hc w Y B0 p b q G d vO vF ps (⟨0,n1,n2,args,conds,some ps.length⟩,Ps,s5) (.returned (.agg #[.int .i64 0,.string n1,.string n2,.slice aV args.length cV,.slice aC conds.length cC,.pointer (some ⟨k,0,none⟩)]))from
   ⟨new,.slice aV args.length cV,.slice aC conds.length cC,by show _=Ending.returned (.agg #[.int .i64 0,.string n1,.string n2,.slice aV args.length cV,.slice aC conds.length cC,AM (ps++new) (some ps.length)]);rw[HPK.o],HNL.o.1,⟨(AA.keep (B:=0) (K:=[184]) kz HZ8.o (by decide)).own HOA8.o (by decide) (tU _),(AA.keep (B:=0) (K:=[186]) kz HZ8.o (by decide)).own HOC8.o (by decide) (tU _),hal,hcl,fun i e=>by cases e;exact HNL.o.2⟩,HQ8.o.typ (AA.keep kz HZ8.o (by decide)),HF8.o.kn kz (tL _) hBw,(xK.o.typ' (AA.keepB kz wY)).low hw7⟩))
  go_wp2_with fail;rw[HQ2.o];refine bodyPost_ret (v:=.agg #[.int .i64 0,.string n1,.string n2,.slice aV args.length cV,.slice aC conds.length cC,.pointer (some ⟨k,0,none⟩)]) (by simp[results,results168,go_sem, *]) rfl ?_;refine FIN.o _ ?_;repeat' with_reducible first|exact Ag.refl _ _|refine Ag.setCell ?_ _ _
end
end Go.Proofs.YtadneapobijejaaGreatDoor
