import Derived.Test.YtogdodlibkckkaaGreatDoorZ44
import Derived.Test.YtogdodlibkckkaaGreatDoorZ39
import Derived.Test.YtogdodlibkckkaaGreatDoorZ24
namespace Go.Proofs.YtogdodlibkckkaaGreatDoor
set_option maxHeartbeats 20000000
set_option maxRecDepth 100000
open Go.RowKit Tryz
open Go.Maps Tryz
theorem IV.ft{w b:World}{B:Nat}{K:List TypeId}{v:Nat}{id:yF}{roles:List yF}(h:IV w v id roles)(d:FT B K w b)(i:92∉K)(j:9∉K):IV b v id roles:=by
 obtain⟨⟨a,c,B',e,f⟩,g⟩:=h;exact⟨⟨a,c,B',d.at e i,d.own f j⟩,g⟩
theorem IV.below{w b:World}{v:Nat}{id:yF}{roles:List yF}(g:IV w v id roles)(hb:yG w b):IV b v id roles:=by
 obtain⟨⟨a,c,B',d,e⟩,f⟩:=g;exact⟨⟨a,c,B',(hb.block _ (Ab d)).trans d,AT e hb⟩,f⟩
theorem BT.ft{w b:World}{B a n:Nat}{K:List TypeId}{D:DataW Unit}(c:BT w a n D)(f:FT B K w b):BT b a n D:=by
 obtain⟨es,clock,hb,F,hs,d⟩:=c;exact⟨es,clock,f.typ a _ hb (fun cs t g e=>by cases e),F,hs,d⟩
def Cs(t:yF):yF:=⟨#[123,34,101,114,114,111,114,115,34,58,91,123,34,109,101,115,115,97,103,101,34,58,34]⟩++t++⟨#[34,125,93,125]⟩
theorem Jj(w:World)(t:yF)(c:t.size<=1000):Calls prog 42 #[.string t] w fun e w'=>e=.returned (.string (Cs t))/\w'=w:=by
 have a:=Aa (Cs.eq_1 t);generalize Cs t=b at*;go_enter func42,ntmps42;go_wp2;go_ret;rw[a.o];exact⟨rfl,rfl⟩
def Lv:yF:=⟨#[115,121,110,116,97,120]⟩
def Oe:yF:=⟨#[114,111,108,101]⟩
def Od:yF:=⟨#[111,112,101,114,97,116,105,111,110]⟩
def Oc:yF:=⟨#[102,114,97,103,109,101,110,116]⟩
def Og:yF:=⟨#[118,97,114,105,97,98,108,101]⟩
def MA:yF:=⟨#[115,101,108,101,99,116,105,111,110]⟩
def Ik:yF:=⟨#[98,117,100,103,101,116]⟩
def Ck(Q:Qy):Nat:=match Q.ops with
 |[]=>0
 |o::_=>o.2
def DH(c:Be)(rows:List (yF×MR))(roles:List yF)(vid:yF)(parts:List Ai):AM:=⟨c.objs,c.ifs,c.uns,c.names,roles,parts,Ej c.objs roles vid rows⟩
def NL(E:AM)(root:MR)(whole:Nat)(b:Int):yF:=if (FW E root whole ⟨b,[],[],[]⟩).left<0 then Cs Ik else FX (FW E root whole ⟨b,[],[],[]⟩)
def Ud(c:Be)(rows:List (yF×MR))(roles:List yF)(vid:yF)(Q:Qy)(b:Int):Option AN->yF
 |none=>Cs Og
 |some l=>if Hz ⟨c.objs,c.ifs,c.uns,roles⟩ (CS l (BY Q)).parts (Ck Q)=false then Cs MA else if b<0\/5000<b then Cs Ik else NL (DH c rows roles vid (CS l (BY Q)).parts) (Cc c.objs rows) (Ck Q) b
def MT(c:Be)(rows:List (yF×MR))(role vid qt vt:yF)(b:Int):yF:=
 if Ec (Bk (Ad qt)).2=false\/(FP (Ad vt)).2=false then Cs Lv
 else if Ef c.roles role=[]then Cs Oe
 else if (Bk (Ad qt)).1.ops.length≠1 then Cs Od
 else if Kq (Bk (Ad qt)).1=false then Cs Oc
 else Ud c rows (Ef c.roles role) vid (Bk (Ad qt)).1 b (Fi (FP (Ad vt)).1 (GZ (BY (Bk (Ad qt)).1)) [])
structure QD(c:Be)(rows:List (yF×MR))(roles:List yF)(vid:yF)(parts:List Ai)(whole:Nat):Prop where
 ks:∀P∈parts,∀x∈P.sels,x.key.size<=4000
 ag:∀P∈parts,∀x∈P.sels,∀a∈x.args,a.2.2.2.size<=4000
 sz:Ip (DH c rows roles vid parts)
 rs:Et (Cc c.objs rows)
 ro:Jw (DH c rows roles vid parts) (Cc c.objs rows)
 ok:∃m,MM (DH c rows roles vid parts) whole m/\MN (DH c rows roles vid parts) whole m (Cc c.objs rows) [whole]
theorem Fe.sl{a:World}{B0 q:Nat}{Q:Qy}{g:List Nat}(b:Fe a B0 q Q g):∀P∈Q.parts,P.sels.length<=1000:=fun P e=>by
 obtain⟨j,f⟩:=List.getElem?_of_mem e;obtain⟨k,r,h,i,l,m,c,n,d,p⟩:=(b.pt j P f).ex;rw[<-c,xT];exact d
section
variable {w:World} {S:Nat} {vR vO vI vU vN:Value} {LR:List (Au×Value)} {LO:List AX} {LI:List (At×Value)} {LU:List (Aw×Value)} {T Mm gO Bs:Nat} {vL:Value} {qs:List AE} {rows:List (yF×MR)} {c:Be}
theorem aB(i:SV w S vR vO vI vU vN LR LO LI LU c.names)(e:LO.map Prod.fst=c.objs)(z:LI.map Prod.fst=c.ifs)(A:LU.map Prod.fst=c.uns)(k:∃c,vO=.slice (some ⟨gO,0,none⟩) LO.length c)(u:IU w T S Mm gO Bs LO vL qs rows)(hit:GM w)(r:∀x∈c.names,x.size<=100000)(j:∀typ fs,Dx (LO.map Prod.fst) (LI.map Prod.fst) typ=some fs->fs≠[]/\∀f∈fs,f.name.size<=100000)
 {V d q whole:Nat} {vid:yF} {roles:List yF} {Q:Qy} {h:List Nat} (y:DV w V vid roles) (a:Fe w d q Q h) (b:QD c rows roles vid Q.parts whole) {m:List Bool} (l:MM (DH c rows roles vid Q.parts) whole m):MX w S vR vO vI vU vN LR LO LI LU c.names T Mm gO Bs V vL qs rows vid roles d h whole m (DH c rows roles vid Q.parts) where
 s:=i
 g:=k
 v:=y
 t:=u
 p:=a.pt
 n:=a.n
 sl:=a.sl
 ks:=b.ks
 ag:=b.ag
 pl:=by have B:=a.l3;have C:=a.n;show Q.parts.length<=2000;omega
 eo:=e.symm
 ei:=z.symm
 eu:=A.symm
 en:=rfl
 er:=rfl
 ew:=by rw[e];rfl
 ok:=l
 sz:=b.sz
 it:=hit
 ns:=r
 fs:=j
end
theorem Ub{E:AM}{root:MR}{whole:Nat}{s:Aj}(e:Ip E)(d:Et root)(c:RB 0 0 s)(k:0<=s.left):Eu (FW E root whole s):=by
 have h:=(JK e 5001).g root [whole] s d c.p;have i:=(JK e 5001).l root [whole] s d c.p;have j:=GX E 5001 root [whole] s;unfold FW;generalize AV E 5001 root [whole] s=a at*;have b:RB (0+2) (0+0) a.2:=c.gr h j (by unfold LB at i;omega);have f:=b.gr (Gr.settle 0 a.1 false a.2 b.p) (PL.settle 0 a.1 false a.2) (by rw[LB.settle];exact b.l);exact f.room (by omega) (by omega)
section
variable {w:World} {S:Nat} {vR vO vI vU vN:Value} {LR:List (Au×Value)} {LO:List AX} {LI:List (At×Value)} {LU:List (Aw×Value)} {T Mm gO Bs:Nat} {vL:Value} {qs:List AE} {rows:List (yF×MR)} {c:Be}
theorem ZZ(aR:SV w S vR vO vI vU vN LR LO LI LU c.names)(cL:LR.map Prod.fst=c.roles)(L:LO.map Prod.fst=c.objs)(bV:LI.map Prod.fst=c.ifs)(bW:LU.map Prod.fst=c.uns)(cy:∃c,vO=.slice (some ⟨gO,0,none⟩) LO.length c)(ao:IU w T S Mm gO Bs LO vL qs rows)(hit:GM w)(cA:∀x∈c.names,x.size<=100000)(cx:∀typ fs,Dx (LO.map Prod.fst) (LI.map Prod.fst) typ=some fs->fs≠[]/\∀f∈fs,f.name.size<=100000)(c3:¬Af (LO.map oN) bQ<0)
 (bI:(LR.map rN).Nodup) (bE:∀x∈LR,∀y∈x.1.inc,y∈LR.map rN/\y.size<=4000) (bP:∀y∈LR.map rN,y.size<=4000)
 (role vid qt vt:yF) (b:Int) (cp:role.size<=2000000) (c0:qt.size<=2000000) (c1:vt.size<=2000000)
 (bz:∀l,Ec (Bk (Ad qt)).2=true->(Bk (Ad qt)).1.ops.length=1->Kq (Bk (Ad qt)).1=true->Fi (FP (Ad vt)).1 (GZ (BY (Bk (Ad qt)).1)) []=some l->Hz ⟨c.objs,c.ifs,c.uns,Ef c.roles role⟩ (CS l (BY (Bk (Ad qt)).1)).parts (Ck (Bk (Ad qt)).1)=true->QD c rows (Ef c.roles role) vid (CS l (BY (Bk (Ad qt)).1)).parts (Ck (Bk (Ad qt)).1)):
 Calls prog 23 #[.pointer (some ⟨T,0,none⟩),.agg #[.string role,.string vid,.string qt,.string vt,.int .i64 b]] w fun e w'=>e=.returned (.string (MT c rows role vid qt vt b))/\yG w w':=by
 obtain⟨g,C⟩:∃g,Hi (g=MT c rows role vid qt vt b):=⟨_,Aa rfl⟩;rw[<-C.o];unfold MT at C;have aA:=Aa bz;have aF:=Aa (SB qt);have bs:=Aa (vQ vt);have bg:=Aa (fun(l:AN)=>XI (l:=l) (Yd qt).1);have aE:=Aa (fun(W:World)=>rW qt W (by unfold maxLen;omega));have aL:=Aa (fun(W:World)=>wC vt W (by unfold maxLen;omega));have bt:=Aa (fun(W:World) (ct:yG w W)=>vM (aR.below ct) bI bE bP role vid cp);rw[cL]at bt;generalize Ef c.roles role=roles at*;generalize FP (Ad vt)=cb at*;generalize Bk (Ad qt)=b9 at*;obtain⟨cn,cm⟩:=cb;obtain⟨Q,ca⟩:=b9;simp only[]at C aA aF bs aE aL bg;generalize Ec ca=cQ at*;have bq:=Aa aR;have b5:=Aa ao;have b1:=Aa hit;have br:=Aa ao.st.b;have aZ:=Ab ao.st.b;have bB:=bA (wR w.heap.size w) (.cells #[.string role,.string vid,.string qt,.string vt,.int .i64 b] 26);have af:=Aa (wX w (.cells #[.string role,.string vid,.string qt,.string vt,.int .i64 b] 26));have bZ:=Aa bB;have c9:w.heap.size<(w.alloc (.cells #[.string role,.string vid,.string qt,.string vt,.int .i64 b] 26)).heap.size:=by simp
 clear aR ao hit bB bz bI bE bP;go_enter func23,ntmps23;go_upto_region 1 with fail;generalize w.alloc (.cells #[.string role,.string vid,.string qt,.string vt,.int .i64 b] 26)=aN at*;have cf:=Ac af.o;go_wp2_with fail;refine(aE.o aN).mono ?_;rintro _ w2 ⟨q,ar,rfl,bM,aj⟩;have bk:=Aa bM;have bY:=Aa (bT bZ.o aj);have N:=Aa ((aj.block _ (Ab af.o)).trans af.o);have cg:=Ac N.o;have cG:=Ab N.o;have c4:=aj.size;clear bM aj aE cf af;go_wp2_with fail;refine(aL.o w2).mono ?_;rintro _ w3 ⟨cT,db,cR,rfl,bL,bR, -, -,U⟩;have bl:=Aa (bk.o.below U);have t:=Aa (bT bY.o U);have H:=Aa ((U.block _ (Ab N.o)).trans N.o);have ch:=Ac H.o;have aY:=Ab H.o;have bb:=Aa bL;have b6:=Aa bR;have c5:=U.size;clear bL bR U aL cg cG N bk;cases cQ
 ·have d:=Aa (show g=Cs Lv from by rw[C.o,xH (.inl rfl)])
  unfold Lv at d;go_wp2_with fail;refine(Jj w3 _ (by decide)).mono ?_;rintro _ i ⟨rfl,a⟩;have a:=a.symm;subst a;go_wp2;go_ret;rw[d.o];exact⟨rfl,t.o⟩
 cases cm
 ·have d:=Aa (show g=Cs Lv from by rw[C.o,xH (.inr rfl)])
  unfold Lv at d;go_wp2_with fail;refine(Jj w3 _ (by decide)).mono ?_;rintro _ i ⟨rfl,a⟩;have a:=a.symm;subst a;go_wp2;go_ret;rw[d.o];exact⟨rfl,t.o⟩
 have aG:=Aa (C.o.trans (xG (by simp)));clear C;have P:=Aa (bt.o w3.drew (t.o.trans (wR _ _).drew));have O:=Aa (fun h (X:yG w3 h)=>xZ X (xZ (Ac ((X.block _ aY).trans H.o)) (xZ (Ac (((bT t.o X).block _ aZ).trans br.o)) (xZ (xA aY X.size) (xA aZ (bT t.o X).size)))));by_cases F:roles=[]
 ·have d:=Aa (show g=Cs Oe from by rw[aG.o,xH F])
  unfold Oe at d;rw[xH F]at P;clear F;go_wp2;go_region_held3 (fun h=>yG w3 h/\(∀j,h.cell? ⟨w.heap.size,j,none⟩=(#[.string role,.string vid,.string qt,.string vt,.int .i64 b]:Array Value)[j]?)/\(∀j,h.cell? ⟨T,j,none⟩=(#[vL,.pointer (some ⟨S,0,none⟩),.map (some Mm)]:Array Value)[j]?)/\w.heap.size<h.heap.size/\T<h.heap.size)
   (first|exact O.o _ (wR _ _).drew|exact O.o _ ((wR _ _).drew.trans D))
   (first|(go_at_call 21;refine P.o.mono ?_;rintro _ w4 ⟨cM,rfl,D, -⟩))
  all_goals(
   have B:=Aa (t.o.trans (((wR w3.heap.size w3).drew.trans D).mono t.o.size));clear D;go_wp2_with fail;refine(Jj w4 _ (by decide)).mono ?_;rintro _ i ⟨rfl,a⟩;have a:=a.symm;subst a;go_wp2;go_ret;rw[d.o];exact⟨rfl,B.o⟩)
 have aH:=Aa (aG.o.trans (xG F));rw[xG F]at P;have b3:=Aa F;clear aG F;go_wp2;go_cut [9,10] (fun v9 v10 wc=>∃V,v9=.pointer (some ⟨V,0,none⟩)/\v10=.int .i64 0/\yG w3 wc/\IV wc V vid roles)
 case first=>
  go_region_held3 (fun h=>yG w3 h/\(∀j,h.cell? ⟨w.heap.size,j,none⟩=(#[.string role,.string vid,.string qt,.string vt,.int .i64 b]:Array Value)[j]?)/\(∀j,h.cell? ⟨T,j,none⟩=(#[vL,.pointer (some ⟨S,0,none⟩),.map (some Mm)]:Array Value)[j]?)/\w.heap.size<h.heap.size/\T<h.heap.size)
   (first|exact O.o _ (wR _ _).drew|exact O.o _ ((wR _ _).drew.trans D))
   (first|(go_at_call 21;refine P.o.mono ?_;rintro _ w4 ⟨cM,rfl,D,bS⟩;obtain⟨V,rfl,Y⟩:=bS b3.o))
  all_goals(
   have B:=Aa (show yG w3 w4 from(wR w3.heap.size w3).drew.trans D);have ai:=Aa Y;clear D Y bS
   (try go_wp2_with fail)
   go_meet;exact⟨V,rfl,rfl,B.o,ai.o⟩)
 case rest=>
 obtain⟨V,rfl,rfl,I,Y⟩:=hcut;have aC:=Aa (bl.o.below I);have B:=Aa (bT t.o I);have a6:=Aa ((I.block _ (Ab H.o)).trans H.o);have bc:=Aa (bb.o.below I);have ai:=Aa Y;have c6:=I.size;obtain⟨cO,cN,cP,R,A,au,s,aa,av,a0⟩:=aC.o.ex;obtain⟨cU,cX,rfl⟩:=An aa;have aP:=Ac A;have Z:=Ab A;have ak:R.length=Q.ops.length:=by rw[<-s,xT]
 clear Y I O P bl bb H ch aY A au s aa av a0;generalize cB:R.length=on at*;have ba:=Aa ak;clear ak cB;by_cases K:Q.ops.length=1
 rotate_left
 ·have d:=Aa (show g=Cs Od from by rw[aH.o,xH K])
  unfold Od at d;have c2:((on:Int)!=1)=true:=by have:=ba.o;simp;omega
  clear K;go_wp2_with fail;refine(Jj wc _ (by decide)).mono ?_;rintro _ i ⟨rfl,a⟩;have a:=a.symm;subst a;go_wp2;go_ret;rw[d.o];exact⟨rfl,B.o⟩
 have aI:=Aa (aH.o.trans (xG (by rw[K];simp)));have cC:on=1:=by rw[ba.o,K]
 subst cC;have a9:=Aa K;clear aH K;have cq:aN.heap.size<=wc.heap.size:=by omega
 have ay:=Aa (mC aC.o aF.o.nm cq);have bh:=Aa (fun l=>aA.o l trivial a9.o);generalize bF:Kq Q=cJ at*;have cS:=Aa bF;clear bF aA;have ap:w.heap.size<=aN.heap.size:=by omega
 cases cJ
 ·have d:=Aa (show g=Cs Oc from by rw[aI.o,xH rfl])
  unfold Oc at d;go_wp2_with fail;refine ay.o.mono ?_;rintro _ w5 ⟨rfl,n, -⟩;have ad:=Aa (B.o.trans (n.below.mono ap));clear n;go_wp2_with fail;refine(Jj w5 _ (by decide)).mono ?_;rintro _ i ⟨rfl,a⟩;have a:=a.symm;subst a;go_wp2;go_ret;rw[d.o];exact⟨rfl,ad.o⟩
 have aJ:=Aa (aI.o.trans (xG (by simp)));clear aI;obtain⟨M,bK⟩:∃M,Q.ops=[(M,Ck Q)]:=by
  have:=a9.o;unfold Ck
  match bJ:Q.ops with
  |[]=>rw[bJ]at this;cases this
  |[o]=>exact⟨o.1,rfl⟩
  |o::p::r=>rw[bJ]at this;simp at this
 have ag:=Aa bK;go_wp2_with fail;refine ay.o.mono ?_;rintro _ w5 ⟨rfl,n,bN⟩;have bm:=Aa (bN trivial);have ad:=Aa (B.o.trans (n.below.mono ap));have a7:=Aa (n.at a6.o (by decide));have bf:=Aa (bc.o.ft n);have bu:=Aa (ai.o.ft n (by decide) (by decide));have c7:=n.size;clear n bN ay aC a6 bc ai aP Z bK;have ax:=Aa (ZC bm.o (by show Q.ops≠[];rw[ag.o];simp) aF.o.link.bd bf.o b6.o bs.o (by omega));have bi:=Aa (fun l=>bh.o l trivial);generalize Fi cn (GZ (BY Q)) []=cd at*;clear bh;cases cd with
 |none=>
  have d:=Aa (show g=Cs Og from aJ.o);unfold Og at d;go_wp2_with fail;refine ax.o.mono ?_;rintro _ w6 ⟨rfl,v, -⟩;have G:=Aa (ad.o.trans (v.below.mono ap));clear v;go_wp2_with fail;refine(Jj w6 _ (by decide)).mono ?_;rintro _ i ⟨rfl,a⟩;have a:=a.symm;subst a;go_wp2;go_ret;rw[d.o];exact⟨rfl,G.o⟩
 |some l=>
  have aK:=Aa (show g=if Hz ⟨c.objs,c.ifs,c.uns,roles⟩ (CS l (BY Q)).parts (Ck Q)=false then Cs MA else if b<0\/5000<b then Cs Ik else NL (DH c rows roles vid (CS l (BY Q)).parts) (Cc c.objs rows) (Ck Q) b from aJ.o);have bj:=Aa (bi.o l rfl);have b2:=Aa (show BP (CS l (BY Q)).parts from by rw[VV];exact bg.o l);clear aJ bi;go_wp2_with fail;refine ax.o.mono ?_;rintro _ w6 ⟨rfl,v,bO⟩;have aD:=Aa (bO l rfl);have G:=Aa (ad.o.trans (v.below.mono ap));have az:=Aa (v.at a7.o (by decide));have aM:=Aa (bu.o.ft v (by decide) (by decide));have c8:=v.size;clear v bO ax bm a7 bf bu;have aS:=(G.o.block _ aZ).trans br.o;have cj:=Ac aS;have cI:=Ab aS;have ae:=Aa (ZF (bq.o.below G.o) aM.o.at aD.o b2.o (show(CS l (BY Q)).ops=[(M,Ck Q)]from ag.o));rw[L,bV,bW]at ae;generalize cz:Hz ⟨c.objs,c.ifs,c.uns,roles⟩ (CS l (BY Q)).parts (Ck Q)=co at*;clear cz aS;cases co
  ·have d:=Aa (show g=Cs MA from by rw[aK.o,xH rfl])
   unfold MA at d;go_wp2_with fail;refine ae.o.mono ?_;rintro _ w7 ⟨rfl,u⟩;have k:=Aa (bT G.o u);clear u;go_wp2_with fail;refine(Jj w7 _ (by decide)).mono ?_;rintro _ i ⟨rfl,a⟩;have a:=a.symm;subst a;go_wp2;go_ret;rw[d.o];exact⟨rfl,k.o⟩
  have ah:=Aa (aK.o.trans (xG (by simp)));clear aK;go_wp2_with fail;refine ae.o.mono ?_;rintro _ w7 ⟨rfl,u⟩;have k:=Aa (bT G.o u);have bn:=Aa (aD.o.below u);have a8:=Aa ((u.block _ (Ab az.o)).trans az.o);have b7:=Aa (aM.o.below u);have ce:=Ac a8.o;have cF:=Ab a8.o;clear u ae aD az aM cj cI;by_cases al:b<0
  ·have d:=Aa (show g=Cs Ik from by rw[ah.o,xH (.inl al)])
   unfold Ik at d;have bC:decide (b<0)=true:=xM al;go_wp2_with fail;refine(Jj w7 _ (by decide)).mono ?_;rintro _ i ⟨rfl,a⟩;have a:=a.symm;subst a;go_wp2;go_ret;rw[d.o];exact⟨rfl,k.o⟩
  by_cases aT:5000<b
  ·have d:=Aa (show g=Cs Ik from by rw[ah.o,xH (.inr aT)])
   unfold Ik at d;have bC:decide (b<0)=false:=wY al;have cv:decide ((5000:Int)<b)=true:=xM aT;go_wp2_with fail;refine(Jj w7 _ (by decide)).mono ?_;rintro _ i ⟨rfl,a⟩;have a:=a.symm;subst a;go_wp2;go_ret;rw[d.o];exact⟨rfl,k.o⟩
  have bo:=Aa (show g=NL (DH c rows roles vid (CS l (BY Q)).parts) (Cc c.objs rows) (Ck Q) b from ah.o.trans (xG (by omega)));have bC:decide (b<0)=false:=wY al;have cv:decide ((5000:Int)<b)=false:=wY aT;clear ah;have E:=bj.o trivial;obtain⟨m,bG,bH⟩:=E.ok;have a5:=Aa (aB (bq.o.below k.o) L bV bW cy (b5.o.below k.o) (b1.o.below k.o) cA cx b7.o.at bn.o E bG);obtain⟨cO,cN,cP,R,A,au,s,aa,av,a0⟩:=bn.o.ex;obtain⟨y,ak⟩:∃y,R=[y]:=by
   rw[show(CS l (BY Q)).ops=[(M,Ck Q)]from ag.o]at s;cases R with
   |nil=>cases s
   |cons y r=>cases r with
    |nil=>exact⟨y,rfl⟩
    |cons z r=>simp at s
  subst ak;have aW:y.1=(M,Ck Q):=by rw[show(CS l (BY Q)).ops=[(M,Ck Q)]from ag.o]at s;simpa using s
  have cE:Ck Q<ar.length:=by have:=(av y yB).p;rw[aW]at this;exact this
  obtain⟨aX,aU⟩:∃aX,ar[Ck Q]?=some aX:=⟨_,wS cE⟩;obtain⟨cl,cZ,cD,bD⟩:=Cw aa (fun _=>rfl) 0 y rfl;subst cD;have aO:w7.cell? ⟨cl,1,none⟩=some (.pointer (some ⟨aX,0,none⟩)):=by have:=bD 1 _ rfl;simpa [oL,aW,AO,aU]using this
  have bU:=wW w7 _ aO;obtain⟨cV,cY,rfl⟩:=An au;have aP:=Ac A;have Z:=Ab A;have b0:=Aa A;have aQ:RB 0 0 ⟨b,[],[],[]⟩:=⟨by show 0+20000000*b.toNat<=_;omega,by show 0+60000000*b.toNat<=_;omega,by unfold PB;show 0+5000*b.toNat<=_;omega,by show -100000000<=b;omega,by show b<=5000;omega⟩;have b4:=Aa (Ub (whole:=Ck Q) E.sz E.rs aQ (by show 0<=b;omega));have ab:=Aa (fun(bv:World) (cu:yG w7 bv) (b8:Nat) (cs:MK bv w7.heap.size b8 T V ar.length ⟨b,[],[],[]⟩)=>nH a5.o (by rw[L];exact E.ro) (by rw[L];exact E.rs) (by rw[L];exact bH) (by omega) cu cs aQ (by show 0<=b;omega) aU);rw[L]at ab;have bp:=Aa (bo.o.trans (NL.eq_1 _ _ _ _));generalize FW (DH c rows roles vid (CS l (BY Q)).parts) (Cc c.objs rows) (Ck Q) ⟨b,[],[],[]⟩=aw at*;unfold AQ at ab;have cr:=k.o.size;clear bo E bG bH a5 A au s aa av a0 aW bD aQ bj aU;generalize ar.length=aq at*;go_wp2;go_region;all_goals(
   have J:=(bA (wR w7.heap.size w7) (.cells #[.pointer (some ⟨T,0,none⟩),.pointer (some ⟨V,0,none⟩),.int .i64 aq,.int .i64 b,.slice none 0 0,.slice none 0 0,.slice none 0 0] 117)).drew;have a4:=Aa (show MK (w7.alloc (.cells #[.pointer (some ⟨T,0,none⟩),.pointer (some ⟨V,0,none⟩),.int .i64 aq,.int .i64 b,.slice none 0 0,.slice none 0 0,.slice none 0 0] 117)).drew w7.heap.size w7.heap.size T V aq ⟨b,[],[],[]⟩from(show MK _ _ _ _ _ _ _ from⟨.slice none 0 0,.slice none 0 0,.slice none 0 0,⟨wX w7 _,xF _ _ _ _,xF _ _ _ _,xF _ _ _ _,.inl rfl,.inl rfl,.inl rfl,wQ _⟩⟩).below (wR _ _).drew);have a2:=Aa J;have ck:=Ac ((J.block _ Z).trans b0.o);have cK:=xA Z J.size;have ci:=Ah J aO;have cH:=xA bU J.size;clear J aP Z aO bU ce cF;generalize (w7.alloc (.cells #[.pointer (some ⟨T,0,none⟩),.pointer (some ⟨V,0,none⟩),.int .i64 aq,.int .i64 b,.slice none 0 0,.slice none 0 0,.slice none 0 0] 117)).drew=cc at*;have a1:=Aa (ab.o cc a2.o w7.heap.size a4.o);clear ab a4;go_wp2_with fail;refine a1.o.mono ?_;rintro _ w9 ⟨rfl,bx,bw⟩;have a3:=Aa (show yG w w9 from k.o.trans ((a2.o.trans bw.below).mono cr));have bX:=Aa (nI bx b4.o);obtain⟨dc,dd,de,aV⟩:=bx;have cW:=Ac aV.b;have da:=Ab aV.b;clear bw aV a1 ck cK ci cH;by_cases am:aw.left<0
   ·have d:=Aa (show g=Cs Ik from by rw[bp.o,xH am])
    unfold Ik at d;have cw:decide (aw.left<0)=true:=xM am;go_wp2_with fail;refine(Jj w9 _ (by decide)).mono ?_;rintro _ i ⟨rfl,a⟩;have a:=a.symm;subst a;go_wp2;go_ret;rw[d.o];exact⟨rfl,a3.o⟩
   ·have d:=Aa (show g=FX aw from by rw[bp.o,xG am])
    have cw:decide (aw.left<0)=false:=wY am;go_wp2_with fail;refine bX.o.mono ?_;rintro _ i ⟨rfl,a⟩;have a:=a.symm;subst a;go_wp2;go_ret;rw[d.o];exact⟨rfl,a3.o⟩)
end
end Go.Proofs.YtogdodlibkckkaaGreatDoor
