import Derived.Test.YtogdodlibkckkaaGreatDoorZ44
import Derived.Test.YtogdodlibkckkaaGreatDoorZ39
import Derived.Test.YtogdodlibkckkaaGreatDoorZ24
namespace Go.Proofs.YtogdodlibkckkaaGreatDoor
set_option maxHeartbeats 20000000
set_option maxRecDepth 100000
open Go.RowKit Tryz
open Go.Maps Tryz
theorem IV.ft{w b:World}{B:Nat}{K:List TypeId}{v:Nat}{id:yF}{roles:List yF}(h:IV w v id roles)(d:FT B K w b)(i:92∉K)(j:9∉K):IV b v id roles:=by
 obtain⟨⟨a,c,B',e,f⟩,g⟩:=h;exact⟨⟨a,c,B',d.at e i,d.own f j⟩,g⟩
theorem IV.below{w b:World}{v:Nat}{id:yF}{roles:List yF}(g:IV w v id roles)(hb:yG w b):IV b v id roles:=by
 obtain⟨⟨a,c,B',d,e⟩,f⟩:=g;exact⟨⟨a,c,B',(hb.block _ (Ab d)).trans d,AT e hb⟩,f⟩
theorem BT.ft{w b:World}{B a n:Nat}{K:List TypeId}{D:DataW Unit}(c:BT w a n D)(f:FT B K w b):BT b a n D:=by
 obtain⟨es,clock,hb,F,g,d⟩:=c;exact⟨es,clock,f.typ a _ hb (fun h t i e=>by cases e),F,g,d⟩
def Cs(t:yF):yF:=⟨#[123,34,101,114,114,111,114,115,34,58,91,123,34,109,101,115,115,97,103,101,34,58,34]⟩++t++⟨#[34,125,93,125]⟩
theorem Jj(w:World)(t:yF)(c:t.size<=1000):Calls prog 42 #[.string t] w fun e w'=>e=.returned (.string (Cs t))/\w'=w:=by
 have a:=Aa (Cs.eq_1 t);generalize Cs t=b at*;go_enter func42,ntmps42;go_wp2;go_ret;rw[a.o];exact⟨rfl,rfl⟩
def Lv:yF:=⟨#[115,121,110,116,97,120]⟩
def Oe:yF:=⟨#[114,111,108,101]⟩
def Od:yF:=⟨#[111,112,101,114,97,116,105,111,110]⟩
def Oc:yF:=⟨#[102,114,97,103,109,101,110,116]⟩
def Og:yF:=⟨#[118,97,114,105,97,98,108,101]⟩
def MA:yF:=⟨#[115,101,108,101,99,116,105,111,110]⟩
def Ik:yF:=⟨#[98,117,100,103,101,116]⟩
def Ck(Q:Qy):Nat:=match Q.ops with
 |[]=>0
 |o::_=>o.2
def DH(c:Be)(rows:List (yF×MR))(roles:List yF)(vid:yF)(parts:List Ai):AM:=⟨c.objs,c.ifs,c.uns,c.names,roles,parts,Ej c.objs roles vid rows⟩
def NL(E:AM)(root:MR)(whole:Nat)(b:Int):yF:=if (FW E root whole ⟨b,[],[],[]⟩).left<0 then Cs Ik else FX (FW E root whole ⟨b,[],[],[]⟩)
def Ud(c:Be)(rows:List (yF×MR))(roles:List yF)(vid:yF)(Q:Qy)(b:Int):Option AN->yF
 |none=>Cs Og
 |some l=>if Hz ⟨c.objs,c.ifs,c.uns,roles⟩ (CS l (BY Q)).parts (Ck Q)=false then Cs MA else if b<0\/5000<b then Cs Ik else NL (DH c rows roles vid (CS l (BY Q)).parts) (Cc c.objs rows) (Ck Q) b
def MT(c:Be)(rows:List (yF×MR))(d vid a e:yF)(b:Int):yF:=
 if Ec (Bk (Ad a)).2=false\/(FP (Ad e)).2=false then Cs Lv
 else if Ef c.roles d=[]then Cs Oe
 else if (Bk (Ad a)).1.ops.length≠1 then Cs Od
 else if Kq (Bk (Ad a)).1=false then Cs Oc
 else Ud c rows (Ef c.roles d) vid (Bk (Ad a)).1 b (Fi (FP (Ad e)).1 (GZ (BY (Bk (Ad a)).1)) [])
structure QD(c:Be)(rows:List (yF×MR))(roles:List yF)(vid:yF)(parts:List Ai)(whole:Nat):Prop where
 ks:∀P∈parts,∀x∈P.sels,x.key.size<=4000
 ag:∀P∈parts,∀x∈P.sels,∀a∈x.args,a.2.2.2.size<=4000
 sz:Ip (DH c rows roles vid parts)
 rs:Et (Cc c.objs rows)
 ro:Jw (DH c rows roles vid parts) (Cc c.objs rows)
 ok:∃m,MM (DH c rows roles vid parts) whole m/\MN (DH c rows roles vid parts) whole m (Cc c.objs rows) [whole]
theorem Fe.sl{a:World}{B0 q:Nat}{Q:Qy}{g:List Nat}(b:Fe a B0 q Q g):∀P∈Q.parts,P.sels.length<=1000:=fun P e=>by
 obtain⟨j,f⟩:=List.getElem?_of_mem e;obtain⟨k,r,h,i,l,m,c,n,d,p⟩:=(b.pt j P f).ex;rw[<-c,xT];exact d
section
variable {w:World} {S:Nat} {vR vO vI vU vN:Value} {LR:List (Au×Value)} {LO:List AX} {LI:List (At×Value)} {LU:List (Aw×Value)} {T Mm gO Bs:Nat} {vL:Value} {qs:List AE} {rows:List (yF×MR)} {c:Be}
theorem aB(i:SV w S vR vO vI vU vN LR LO LI LU c.names)(e:LO.map Prod.fst=c.objs)(z:LI.map Prod.fst=c.ifs)(A:LU.map Prod.fst=c.uns)(k:∃c,vO=.slice (some ⟨gO,0,none⟩) LO.length c)(u:IU w T S Mm gO Bs LO vL qs rows)(hit:GM w)(r:∀x∈c.names,x.size<=100000)(j:∀typ fs,Dx (LO.map Prod.fst) (LI.map Prod.fst) typ=some fs->fs≠[]/\∀f∈fs,f.name.size<=100000)
 {V d q whole:Nat} {vid:yF} {roles:List yF} {Q:Qy} {h:List Nat} (y:DV w V vid roles) (a:Fe w d q Q h) (b:QD c rows roles vid Q.parts whole) {m:List Bool} (l:MM (DH c rows roles vid Q.parts) whole m):MX w S vR vO vI vU vN LR LO LI LU c.names T Mm gO Bs V vL qs rows vid roles d h whole m (DH c rows roles vid Q.parts) where
 s:=i
 g:=k
 v:=y
 t:=u
 p:=a.pt
 n:=a.n
 sl:=a.sl
 ks:=b.ks
 ag:=b.ag
 pl:=by have B:=a.l3;have C:=a.n;show Q.parts.length<=2000;omega
 eo:=e.symm
 ei:=z.symm
 eu:=A.symm
 en:=rfl
 er:=rfl
 ew:=by rw[e];rfl
 ok:=l
 sz:=b.sz
 it:=hit
 ns:=r
 fs:=j
end
theorem Ub{E:AM}{root:MR}{whole:Nat}{s:Aj}(e:Ip E)(d:Et root)(c:RB 0 0 s)(k:0<=s.left):Eu (FW E root whole s):=by
 have h:=(JK e 5001).g root [whole] s d c.p;have i:=(JK e 5001).l root [whole] s d c.p;have j:=GX E 5001 root [whole] s;unfold FW;generalize AV E 5001 root [whole] s=a at*;have b:RB (0+2) (0+0) a.2:=c.gr h j (by unfold LB at i;omega);have f:=b.gr (Gr.settle 0 a.1 false a.2 b.p) (PL.settle 0 a.1 false a.2) (by rw[LB.settle];exact b.l);exact f.room (by omega) (by omega)
section
variable {w:World} {S:Nat} {vR vO vI vU vN:Value} {LR:List (Au×Value)} {LO:List AX} {LI:List (At×Value)} {LU:List (Aw×Value)} {T Mm gO Bs:Nat} {vL:Value} {qs:List AE} {rows:List (yF×MR)} {c:Be}
theorem ZZ(aU:SV w S vR vO vI vU vN LR LO LI LU c.names)(cO:LR.map Prod.fst=c.roles)(O:LO.map Prod.fst=c.objs)(bY:LI.map Prod.fst=c.ifs)(bZ:LU.map Prod.fst=c.uns)(cB:∃c,vO=.slice (some ⟨gO,0,none⟩) LO.length c)(ar:IU w T S Mm gO Bs LO vL qs rows)(hit:GM w)(cD:∀x∈c.names,x.size<=100000)(cA:∀typ fs,Dx (LO.map Prod.fst) (LI.map Prod.fst) typ=some fs->fs≠[]/\∀f∈fs,f.name.size<=100000)(c6:¬Af (LO.map oN) bQ<0)
 (bL:(LR.map rN).Nodup) (bH:∀x∈LR,∀y∈x.1.inc,y∈LR.map rN/\y.size<=4000) (bU:∀y∈LR.map rN,y.size<=4000)
 (i vid g k:yF) (b:Int) (cs:i.size<=2000000) (c3:g.size<=2000000) (c4:k.size<=2000000)
 (bD:∀l,Ec (Bk (Ad g)).2=true->(Bk (Ad g)).1.ops.length=1->Kq (Bk (Ad g)).1=true->Fi (FP (Ad k)).1 (GZ (BY (Bk (Ad g)).1)) []=some l->Hz ⟨c.objs,c.ifs,c.uns,Ef c.roles i⟩ (CS l (BY (Bk (Ad g)).1)).parts (Ck (Bk (Ad g)).1)=true->QD c rows (Ef c.roles i) vid (CS l (BY (Bk (Ad g)).1)).parts (Ck (Bk (Ad g)).1)):
 Calls prog 23 #[.pointer (some ⟨T,0,none⟩),.agg #[.string i,.string vid,.string g,.string k,.int .i64 b]] w fun e w'=>e=.returned (.string (MT c rows i vid g k b))/\yG w w':=by
 obtain⟨h,F⟩:∃h,Hi (h=MT c rows i vid g k b):=⟨_,Aa rfl⟩;rw[<-F.o];unfold MT at F;have aE:=Aa bD;have aI:=Aa (SB g);have bv:=Aa (vQ k);have bj:=Aa (fun(l:AN)=>XI (l:=l) (Yd g).1);have aH:=Aa (fun(W:World)=>rW g W (by unfold maxLen;omega));have aO:=Aa (fun(W:World)=>wC k W (by unfold maxLen;omega));have bw:=Aa (fun(W:World) (cw:yG w W)=>vM (aU.below cw) bL bH bU i vid cs);rw[cO]at bw;generalize Ef c.roles i=roles at*;generalize FP (Ad k)=ce at*;generalize Bk (Ad g)=cc at*;obtain⟨cq,cp⟩:=ce;obtain⟨Q,cd⟩:=cc;simp only[]at F aE aI bv aH aO bj;generalize Ec cd=cT at*;have bt:=Aa aU;have b8:=Aa ar;have b4:=Aa hit;have bu:=Aa ar.st.b;have a2:=Ab ar.st.b;have bE:=bA (wR w.heap.size w) (.cells #[.string i,.string vid,.string g,.string k,.int .i64 b] 26);have ai:=Aa (wX w (.cells #[.string i,.string vid,.string g,.string k,.int .i64 b] 26));have b2:=Aa bE;have dc:w.heap.size<(w.alloc (.cells #[.string i,.string vid,.string g,.string k,.int .i64 b] 26)).heap.size:=by simp
 clear aU ar hit bE bD bL bH bU;go_enter func23,ntmps23;go_upto_region 1 with fail;generalize w.alloc (.cells #[.string i,.string vid,.string g,.string k,.int .i64 b] 26)=aQ at*;have ci:=Ac ai.o;go_wp2_with fail;refine(aH.o aQ).mono ?_;rintro _ w2 ⟨q,aw,rfl,bP,am⟩;have bn:=Aa bP;have b1:=Aa (bT b2.o am);have R:=Aa ((am.block _ (Ab ai.o)).trans ai.o);have cj:=Ac R.o;have cJ:=Ab R.o;have c7:=am.size;clear bP am aH ci ai;go_wp2_with fail;refine(aO.o w2).mono ?_;rintro _ w3 ⟨cW,de,cU,rfl,bO,bV, -, -,Z⟩;have bo:=Aa (bn.o.below Z);have A:=Aa (bT b1.o Z);have K:=Aa ((Z.block _ (Ab R.o)).trans R.o);have ck:=Ac K.o;have a1:=Ab K.o;have bg:=Aa bO;have b9:=Aa bV;have c8:=Z.size;clear bO bV Z aO cj cJ R bn;cases cT
 ·have d:=Aa (show h=Cs Lv from by rw[F.o,xH (.inl rfl)])
  unfold Lv at d;go_wp2_with fail;refine(Jj w3 _ (by decide)).mono ?_;rintro _ s ⟨rfl,a⟩;have a:=a.symm;subst a;go_wp2;go_ret;rw[d.o];exact⟨rfl,A.o⟩
 cases cp
 ·have d:=Aa (show h=Cs Lv from by rw[F.o,xH (.inr rfl)])
  unfold Lv at d;go_wp2_with fail;refine(Jj w3 _ (by decide)).mono ?_;rintro _ s ⟨rfl,a⟩;have a:=a.symm;subst a;go_wp2;go_ret;rw[d.o];exact⟨rfl,A.o⟩
 have aJ:=Aa (F.o.trans (xG (by simp)));clear F;have X:=Aa (bw.o w3.drew (A.o.trans (wR _ _).drew));have U:=Aa (fun n (aa:yG w3 n)=>xZ aa (xZ (Ac ((aa.block _ a1).trans K.o)) (xZ (Ac (((bT A.o aa).block _ a2).trans bu.o)) (xZ (xA a1 aa.size) (xA a2 (bT A.o aa).size)))));by_cases I:roles=[]
 ·have d:=Aa (show h=Cs Oe from by rw[aJ.o,xH I])
  unfold Oe at d;rw[xH I]at X;clear I;go_wp2;go_region_held3 (fun n=>yG w3 n/\(∀j,n.cell? ⟨w.heap.size,j,none⟩=(#[.string i,.string vid,.string g,.string k,.int .i64 b]:Array Value)[j]?)/\(∀j,n.cell? ⟨T,j,none⟩=(#[vL,.pointer (some ⟨S,0,none⟩),.map (some Mm)]:Array Value)[j]?)/\w.heap.size<n.heap.size/\T<n.heap.size)
   (first|exact U.o _ (wR _ _).drew|exact U.o _ ((wR _ _).drew.trans G))
   (first|(go_at_call 21;refine X.o.mono ?_;rintro _ w4 ⟨cP,rfl,G, -⟩))
  all_goals(
   have E:=Aa (A.o.trans (((wR w3.heap.size w3).drew.trans G).mono A.o.size));clear G;go_wp2_with fail;refine(Jj w4 _ (by decide)).mono ?_;rintro _ s ⟨rfl,a⟩;have a:=a.symm;subst a;go_wp2;go_ret;rw[d.o];exact⟨rfl,E.o⟩)
 have aK:=Aa (aJ.o.trans (xG I));rw[xG I]at X;have b6:=Aa I;clear aJ I;go_wp2;go_cut [9,10] (fun v9 v10 wc=>∃V,v9=.pointer (some ⟨V,0,none⟩)/\v10=.int .i64 0/\yG w3 wc/\IV wc V vid roles)
 case first=>
  go_region_held3 (fun n=>yG w3 n/\(∀j,n.cell? ⟨w.heap.size,j,none⟩=(#[.string i,.string vid,.string g,.string k,.int .i64 b]:Array Value)[j]?)/\(∀j,n.cell? ⟨T,j,none⟩=(#[vL,.pointer (some ⟨S,0,none⟩),.map (some Mm)]:Array Value)[j]?)/\w.heap.size<n.heap.size/\T<n.heap.size)
   (first|exact U.o _ (wR _ _).drew|exact U.o _ ((wR _ _).drew.trans G))
   (first|(go_at_call 21;refine X.o.mono ?_;rintro _ w4 ⟨cP,rfl,G,bW⟩;obtain⟨V,rfl,ab⟩:=bW b6.o))
  all_goals(
   have E:=Aa (show yG w3 w4 from(wR w3.heap.size w3).drew.trans G);have al:=Aa ab;clear G ab bW
   (try go_wp2_with fail)
   go_meet;exact⟨V,rfl,rfl,E.o,al.o⟩)
 case rest=>
 obtain⟨V,rfl,rfl,L,ab⟩:=hcut;have aF:=Aa (bo.o.below L);have E:=Aa (bT A.o L);have a9:=Aa ((L.block _ (Ab K.o)).trans K.o);have bh:=Aa (bg.o.below L);have al:=Aa ab;have c9:=L.size;obtain⟨cR,cQ,cS,Y,D,ax,v,ae,ay,a3⟩:=aF.o.ex;obtain⟨cX,c0,rfl⟩:=An ae;have aS:=Ac D;have ad:=Ab D;have ao:Y.length=Q.ops.length:=by rw[<-v,xT]
 clear ab L U X bo bg K ck a1 D ax v ae ay a3;generalize cE:Y.length=on at*;have bf:=Aa ao;clear ao cE;by_cases N:Q.ops.length=1
 rotate_left
 ·have d:=Aa (show h=Cs Od from by rw[aK.o,xH N])
  unfold Od at d;have c5:((on:Int)!=1)=true:=by have:=bf.o;simp;omega
  clear N;go_wp2_with fail;refine(Jj wc _ (by decide)).mono ?_;rintro _ s ⟨rfl,a⟩;have a:=a.symm;subst a;go_wp2;go_ret;rw[d.o];exact⟨rfl,E.o⟩
 have aL:=Aa (aK.o.trans (xG (by rw[N];simp)));have cF:on=1:=by rw[bf.o,N]
 subst cF;have bc:=Aa N;clear aK N;have ct:aQ.heap.size<=wc.heap.size:=by omega
 have aC:=Aa (mC aF.o aI.o.nm ct);have bk:=Aa (fun l=>aE.o l trivial bc.o);generalize bI:Kq Q=cM at*;have cV:=Aa bI;clear bI aE;have au:w.heap.size<=aQ.heap.size:=by omega
 cases cM
 ·have d:=Aa (show h=Cs Oc from by rw[aL.o,xH rfl])
  unfold Oc at d;go_wp2_with fail;refine aC.o.mono ?_;rintro _ w5 ⟨rfl,u, -⟩;have ag:=Aa (E.o.trans (u.below.mono au));clear u;go_wp2_with fail;refine(Jj w5 _ (by decide)).mono ?_;rintro _ s ⟨rfl,a⟩;have a:=a.symm;subst a;go_wp2;go_ret;rw[d.o];exact⟨rfl,ag.o⟩
 have aM:=Aa (aL.o.trans (xG (by simp)));clear aL;obtain⟨P,bN⟩:∃P,Q.ops=[(P,Ck Q)]:=by
  have:=bc.o;unfold Ck
  match bM:Q.ops with
  |[]=>rw[bM]at this;cases this
  |[o]=>exact⟨o.1,rfl⟩
  |o::p::r=>rw[bM]at this;simp at this
 have aj:=Aa bN;go_wp2_with fail;refine aC.o.mono ?_;rintro _ w5 ⟨rfl,u,bR⟩;have bp:=Aa (bR trivial);have ag:=Aa (E.o.trans (u.below.mono au));have ba:=Aa (u.at a9.o (by decide));have bi:=Aa (bh.o.ft u);have bx:=Aa (al.o.ft u (by decide) (by decide));have da:=u.size;clear u bR aC aF a9 bh al aS ad bN;have aA:=Aa (ZC bp.o (by show Q.ops≠[];rw[aj.o];simp) aI.o.link.bd bi.o b9.o bv.o (by omega));have bl:=Aa (fun l=>bk.o l trivial);generalize Fi cq (GZ (BY Q)) []=cg at*;clear bk;cases cg with
 |none=>
  have d:=Aa (show h=Cs Og from aM.o);unfold Og at d;go_wp2_with fail;refine aA.o.mono ?_;rintro _ w6 ⟨rfl,C, -⟩;have J:=Aa (ag.o.trans (C.below.mono au));clear C;go_wp2_with fail;refine(Jj w6 _ (by decide)).mono ?_;rintro _ s ⟨rfl,a⟩;have a:=a.symm;subst a;go_wp2;go_ret;rw[d.o];exact⟨rfl,J.o⟩
 |some l=>
  have aN:=Aa (show h=if Hz ⟨c.objs,c.ifs,c.uns,roles⟩ (CS l (BY Q)).parts (Ck Q)=false then Cs MA else if b<0\/5000<b then Cs Ik else NL (DH c rows roles vid (CS l (BY Q)).parts) (Cc c.objs rows) (Ck Q) b from aM.o);have bm:=Aa (bl.o l rfl);have b5:=Aa (show BP (CS l (BY Q)).parts from by rw[VV];exact bj.o l);clear aM bl;go_wp2_with fail;refine aA.o.mono ?_;rintro _ w6 ⟨rfl,C,bS⟩;have aG:=Aa (bS l rfl);have J:=Aa (ag.o.trans (C.below.mono au));have aD:=Aa (C.at ba.o (by decide));have aP:=Aa (bx.o.ft C (by decide) (by decide));have db:=C.size;clear C bS aA bp ba bi bx;have aV:=(J.o.block _ a2).trans bu.o;have cm:=Ac aV;have cL:=Ab aV;have ah:=Aa (ZF (bt.o.below J.o) aP.o.at aG.o b5.o (show(CS l (BY Q)).ops=[(P,Ck Q)]from aj.o));rw[O,bY,bZ]at ah;generalize cC:Hz ⟨c.objs,c.ifs,c.uns,roles⟩ (CS l (BY Q)).parts (Ck Q)=cr at*;clear cC aV;cases cr
  ·have d:=Aa (show h=Cs MA from by rw[aN.o,xH rfl])
   unfold MA at d;go_wp2_with fail;refine ah.o.mono ?_;rintro _ w7 ⟨rfl,B⟩;have t:=Aa (bT J.o B);clear B;go_wp2_with fail;refine(Jj w7 _ (by decide)).mono ?_;rintro _ s ⟨rfl,a⟩;have a:=a.symm;subst a;go_wp2;go_ret;rw[d.o];exact⟨rfl,t.o⟩
  have ak:=Aa (aN.o.trans (xG (by simp)));clear aN;go_wp2_with fail;refine ah.o.mono ?_;rintro _ w7 ⟨rfl,B⟩;have t:=Aa (bT J.o B);have bq:=Aa (aG.o.below B);have bb:=Aa ((B.block _ (Ab aD.o)).trans aD.o);have ca:=Aa (aP.o.below B);have ch:=Ac bb.o;have cI:=Ab bb.o;clear B ah aG aD aP cm cL;by_cases ap:b<0
  ·have d:=Aa (show h=Cs Ik from by rw[ak.o,xH (.inl ap)])
   unfold Ik at d;have bF:decide (b<0)=true:=xM ap;go_wp2_with fail;refine(Jj w7 _ (by decide)).mono ?_;rintro _ s ⟨rfl,a⟩;have a:=a.symm;subst a;go_wp2;go_ret;rw[d.o];exact⟨rfl,t.o⟩
  by_cases aW:5000<b
  ·have d:=Aa (show h=Cs Ik from by rw[ak.o,xH (.inr aW)])
   unfold Ik at d;have bF:decide (b<0)=false:=wY ap;have cy:decide ((5000:Int)<b)=true:=xM aW;go_wp2_with fail;refine(Jj w7 _ (by decide)).mono ?_;rintro _ s ⟨rfl,a⟩;have a:=a.symm;subst a;go_wp2;go_ret;rw[d.o];exact⟨rfl,t.o⟩
  have br:=Aa (show h=NL (DH c rows roles vid (CS l (BY Q)).parts) (Cc c.objs rows) (Ck Q) b from ak.o.trans (xG (by omega)));have bF:decide (b<0)=false:=wY ap;have cy:decide ((5000:Int)<b)=false:=wY aW;clear ak;have H:=bm.o trivial;obtain⟨m,bJ,bK⟩:=H.ok;have a8:=Aa (aB (bt.o.below t.o) O bY bZ cB (b8.o.below t.o) (b4.o.below t.o) cD cA ca.o.at bq.o H bJ);obtain⟨cR,cQ,cS,Y,D,ax,v,ae,ay,a3⟩:=bq.o.ex;obtain⟨y,ao⟩:∃y,Y=[y]:=by
   rw[show(CS l (BY Q)).ops=[(P,Ck Q)]from aj.o]at v;cases Y with
   |nil=>cases v
   |cons y r=>cases r with
    |nil=>exact⟨y,rfl⟩
    |cons z r=>simp at v
  subst ao;have aZ:y.1=(P,Ck Q):=by rw[show(CS l (BY Q)).ops=[(P,Ck Q)]from aj.o]at v;simpa using v
  have cH:Ck Q<aw.length:=by have:=(ay y yB).p;rw[aZ]at this;exact this
  obtain⟨a0,aX⟩:∃a0,aw[Ck Q]?=some a0:=⟨_,wS cH⟩;obtain⟨co,c2,cG,bG⟩:=Cw ae (fun _=>rfl) 0 y rfl;subst cG;have aR:w7.cell? ⟨co,1,none⟩=some (.pointer (some ⟨a0,0,none⟩)):=by have:=bG 1 _ rfl;simpa [oL,aZ,AO,aX]using this
  have bX:=wW w7 _ aR;obtain⟨cY,c1,rfl⟩:=An ax;have aS:=Ac D;have ad:=Ab D;have b3:=Aa D;have aT:RB 0 0 ⟨b,[],[],[]⟩:=⟨by show 0+20000000*b.toNat<=_;omega,by show 0+60000000*b.toNat<=_;omega,by unfold PB;show 0+5000*b.toNat<=_;omega,by show -100000000<=b;omega,by show b<=5000;omega⟩;have b7:=Aa (Ub (whole:=Ck Q) H.sz H.rs aT (by show 0<=b;omega));have af:=Aa (fun(bz:World) (cx:yG w7 bz) (cb:Nat) (cv:MK bz w7.heap.size cb T V aw.length ⟨b,[],[],[]⟩)=>nH a8.o (by rw[O];exact H.ro) (by rw[O];exact H.rs) (by rw[O];exact bK) (by omega) cx cv aT (by show 0<=b;omega) aX);rw[O]at af;have bs:=Aa (br.o.trans (NL.eq_1 _ _ _ _));generalize FW (DH c rows roles vid (CS l (BY Q)).parts) (Cc c.objs rows) (Ck Q) ⟨b,[],[],[]⟩=az at*;unfold AQ at af;have cu:=t.o.size;clear br H bJ bK a8 D ax v ae ay a3 aZ bG aT bm aX;generalize aw.length=av at*;go_wp2;go_region;all_goals(
   have M:=(bA (wR w7.heap.size w7) (.cells #[.pointer (some ⟨T,0,none⟩),.pointer (some ⟨V,0,none⟩),.int .i64 av,.int .i64 b,.slice none 0 0,.slice none 0 0,.slice none 0 0] 117)).drew;have a7:=Aa (show MK (w7.alloc (.cells #[.pointer (some ⟨T,0,none⟩),.pointer (some ⟨V,0,none⟩),.int .i64 av,.int .i64 b,.slice none 0 0,.slice none 0 0,.slice none 0 0] 117)).drew w7.heap.size w7.heap.size T V av ⟨b,[],[],[]⟩from(show MK _ _ _ _ _ _ _ from⟨.slice none 0 0,.slice none 0 0,.slice none 0 0,⟨wX w7 _,xF _ _ _ _,xF _ _ _ _,xF _ _ _ _,.inl rfl,.inl rfl,.inl rfl,wQ _⟩⟩).below (wR _ _).drew);have a5:=Aa M;have cn:=Ac ((M.block _ ad).trans b3.o);have cN:=xA ad M.size;have cl:=Ah M aR;have cK:=xA bX M.size;clear M aS ad aR bX ch cI;generalize (w7.alloc (.cells #[.pointer (some ⟨T,0,none⟩),.pointer (some ⟨V,0,none⟩),.int .i64 av,.int .i64 b,.slice none 0 0,.slice none 0 0,.slice none 0 0] 117)).drew=cf at*;have a4:=Aa (af.o cf a5.o w7.heap.size a7.o);clear af a7;go_wp2_with fail;refine a4.o.mono ?_;rintro _ w9 ⟨rfl,bC,bB⟩;have a6:=Aa (show yG w w9 from t.o.trans ((a5.o.trans bB.below).mono cu));have b0:=Aa (nI bC b7.o);obtain⟨df,dg,dh,aY⟩:=bC;have cZ:=Ac aY.b;have dd:=Ab aY.b;clear bB aY a4 cn cN cl cK;by_cases aq:az.left<0
   ·have d:=Aa (show h=Cs Ik from by rw[bs.o,xH aq])
    unfold Ik at d;have cz:decide (az.left<0)=true:=xM aq;go_wp2_with fail;refine(Jj w9 _ (by decide)).mono ?_;rintro _ s ⟨rfl,a⟩;have a:=a.symm;subst a;go_wp2;go_ret;rw[d.o];exact⟨rfl,a6.o⟩
   ·have d:=Aa (show h=FX az from by rw[bs.o,xG aq])
    have cz:decide (az.left<0)=false:=wY aq;go_wp2_with fail;refine b0.o.mono ?_;rintro _ s ⟨rfl,a⟩;have a:=a.symm;subst a;go_wp2;go_ret;rw[d.o];exact⟨rfl,a6.o⟩)
end
end Go.Proofs.YtogdodlibkckkaaGreatDoor
