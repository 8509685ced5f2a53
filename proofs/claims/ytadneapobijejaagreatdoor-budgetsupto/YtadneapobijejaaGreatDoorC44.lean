import Derived.Test.YtadneapobijejaaGreatDoorC43
namespace Go.Proofs.YtadneapobijejaaGreatDoor
set_option maxHeartbeats 20000000
set_option maxRecDepth 100000
open Go.RowKit Tryz
section
variable {w0:World} {S:Nat} {vR vO vI vU vN:Value} {LR:List (At×Value)} {LO:List AV} {LI:List (As×Value)} {LU:List (Au×Value)} {names:List vD} {gO:Nat}
theorem lV(h:SV w0 S vR vO vI vU vN LR LO LI LU names)(hg:∃c,vO=.slice (some ⟨gO,0,none⟩) LO.length c){k:Nat}{x:AV}(hx:LO[k]?=some x){n:vD}{d:Al}(hd:En x.1.fields n=some d):∃gF oF u,Ce w0 gF oF d u/\Bu w0 S u d.ty/\∀X,vE w0 X->Calls prog 108 #[.pointer (some ⟨gO,k*4,none⟩),.string n] X fun e w'=>e=.returned (.pointer (some ⟨gF,oF,none⟩))/\vE X w':=by
 obtain⟨g2,cap2,hv2,hc2⟩:=h.o.cell (fun _=>rfl) k x hx;obtain⟨c0,hv0⟩:=hg;rw[hv0]at hv2;have eg:=(Addr.mk.inj (tY (Value.slice.inj hv2).1)).1;subst eg;have o1:w0.cell? ⟨gO,k*4+1,none⟩=some x.2.1:=hc2 1 _ rfl;obtain⟨hfl,hfln,_,_,_⟩:=h.o.ok x (tO hx);obtain⟨LF,eLF,hrow⟩:=hfl.row;have hnm:LF.map fN=x.1.fields.map Al.name:=Ke LF _ eLF;have hLl:LF.length=x.1.fields.length:=by rw[<-eLF,uP]
 have hro:CT w0 x.2.1 6 (x.1.fields.map Al.name):=by rw[<-hnm];exact hrow.rowed fN (fun _=>rfl) (fun _=>rfl)
 unfold En at hd;split at hd
 ·cases hd
 ·rename_i hneg
  obtain⟨j,y,hj,hy,hyn,_⟩:=Cl fN LF n (by rw[hnm];exact hneg);obtain⟨gF,capF,hvF,hfa,hta⟩:=hrow.fldAt j y hy;rw[hnm]at hj;have hdy:y.1=d:=by
   rw[hj,uO,<-eLF,uD,hy]at hd;exact tY hd
  rw[hdy]at hfa hta;refine⟨gF,j*6,y.2,hfa,hta,fun X hX=>?_⟩;have q:=Oj X gO (k*4) x.2.1 n (x.1.fields.map Al.name) (Ah hX o1) (hro.below hX) (by simp;omega);rw[show AC x.2.1 6 (Ae (x.1.fields.map Al.name) n)=.pointer (some ⟨gF,j*6,none⟩)from by rw[hj,hvF];unfold AC;rw[uB (by omega)];rfl]at q;exact q
end
section
variable {w0:World} {S:Nat} {vR vO vI vU vN:Value} {LR:List (At×Value)} {LO:List AV} {LI:List (As×Value)} {LU:List (Au×Value)} {names:List vD} {T Mm gO Bs V:Nat} {vL:Value} {qs:List AE} {rows:List (vD×MR)} {vid:vD} {roles:List vD} {Bq:Nat} {pp:List Nat} {whole:Nat} {m:List Bool} {E:AJ} {M f:Nat}
theorem Wb(E:AJ)(f:Nat)(r:MR)(ps:List Nat)(s:Aj):(AR E f r ps s).1<=2:=by
 have hL:∀(obj:BW) (r:MR) (l:List QF) (i how:Nat) (s:Aj),how<=2->(BX E obj r l i how s).1<=2:=by
  intro obj r l
  induction l with
  |nil=>intro i how s h;rw[BX];exact h
  |cons x l ih=>
   intro i how s h;rw[BX];split
   ·exact tL _
   ·exact ih _ _ _ (QV h)
 cases f with
 |zero=>exact tL _
 |succ f=>rw[AR];exact hL _ _ _ _ _ _ (by omega)
theorem sE(E:AJ)(f:Nat)(r:MR)(d:Al)(x:QF)(s:Aj):(Da E (AR E f) r d x s).1<=2:=by
 unfold Da;split
 ·exact tL _
 split
 ·unfold Fb
  split
  ·exact tL _
  ·exact Wb E f _ _ _
 split
 ·exact Sr E f _ _ _ _
 ·exact Sr E f _ _ _ _
theorem kJ(hX:MX w0 S vR vO vI vU vN LR LO LI LU names T Mm gO Bs V vL qs rows vid roles Bq pp whole m E)(hf5:f<=5001)(hO:JI w0 gO LO T V pp whole m E M f)
 {w:World} {s:Aj} {r:MR} {g o:Nat} {l:List BR} {x:Aq} {gs os:Nat} {fps:List Nat} {vfp:Value} {B2:Nat} (hb:vE w0 w) (hM:MK w w0.heap.size M T V pp.length s) (hR:RB 0 0 s) (h0:0<=s.left) (hf:s.left<f) (hp0:s.path≠[]) (hd1:DL 1 s) (hrow:Ha w0 w gO LO g o l r) (xM:Jm E r) (hrs:Ei r) (hfo:PG E.c E.parts whole m (E.obj r.1) (x,fps)) (hsel:ET w0 Bq pp gs os x) (hasz:∀a∈x.args,a.2.2.2.size<=4000) (hpl:fps.length<=10000000) (hv:w.ownsRow B2 89 1 vfp fps.length (Bw pp fps)):
 Calls prog 87 #[.pointer (some ⟨M,0,none⟩),.pointer (some ⟨g,o,none⟩),.agg #[.pointer (some ⟨gs,os,none⟩),vfp]] w (AQ w w0.heap.size M T V pp.length (.bool (Cx E (AR E f) r (x,fps) s).1) (Cx E (AR E f) r (x,fps) s).2):=by
 have hwz:=hb.size;have hrm:=hR.room (by omega) (by omega);have hr2:=hR.len (by omega);obtain⟨aP,cP,rfl⟩:=An hv;have hbA:=bA (tM w.heap.size w) (.cells #[.pointer (some ⟨gs,os,none⟩),.slice aP fps.length cP] 209);have wI:=Aa (tS w (.cells #[.pointer (some ⟨gs,os,none⟩),.slice aP fps.length cP] 209));have HFA:=Aa (show FT w0.heap.size kM w _ from FT.of_below hbA hwz);have HMA:=Aa (hM.below hbA);have hzA:w0.heap.size<=(w.alloc (.cells #[.pointer (some ⟨gs,os,none⟩),.slice aP fps.length cP] 209)).heap.size:=tQ hwz hbA.size;have HBA:=Aa (show vE w0 (w.alloc (.cells #[.pointer (some ⟨gs,os,none⟩),.slice aP fps.length cP] 209))from hb.trans (hbA.mono hwz));obtain⟨RES,vH⟩:∃RES,Hi (RES=Cx E (AR E f) r (x,fps) s):=⟨_,Aa rfl⟩;rw[<-vH.o];unfold Cx at vH;obtain⟨aA,cA,aC,cC,hc,hok⟩:=hsel.ex;have x2:w0.cell? ⟨gs,os+2,none⟩=some (.string x.name):=hc 2 _ rfl;have x3:w0.cell? ⟨gs,os+3,none⟩=some (.slice aA x.args.length cA):=hc 3 _ rfl;have lgs:=tR w0 _ x3;have HXA:=Aa hok.a;have z2:=Ah HBA.o x2;have z3:=Ah HBA.o x3;have lgs1:=tR _ _ z2;obtain⟨y,hy⟩:∃y,LO[r.1]?=some y:=⟨_,tN (by have:=xM.k;rw[hX.eo,uP]at this;exact this)⟩;have hyo:E.obj r.1=y.1:=by unfold AJ.obj;rw[hX.eo,List.getD_eq_getElem?_getD,uD,hy];rfl
 have ho0:w0.cell? ⟨gO,r.1*4,none⟩=some (.string y.1.name):=by
  obtain⟨c,ec⟩:=hX.g;obtain⟨g',cap',e',hcell⟩:=hX.s.o.cell (fun _=>rfl) r.1 y hy;rw[ec]at e';have e3:=Addr.mk.inj (tY (Value.slice.inj e').1);rw[e3.1];simpa using hcell 0 _ rfl
 have N1:(x.name.toList==[95,95,116,121,112,101,110,97,109,101])=decide (x.name=FH):=BN x.name _;have N2:(x.name.toList==[95,95,116,121,112,101,115])=decide (x.name=FI):=BN x.name _;have N3:(x.name.toList==[95,95,102,105,101,108,100,115])=decide (x.name=Fk):=BN x.name _;have hcM:=MK.c01 ⟨s,HMA.o⟩;have lM:=hcM.2.2;clear hbA;by_cases n1:x.name=FH
 ·rw[uC n1]at vH
  rw[uH n1]at N1;clear n1;have r0:=(hrow.a _ HFA.o).c0;have lr:=tR _ _ r0;have o0:=Ah HBA.o ho0;have lo:=tR _ _ o0;have hys:y.1.name.size<=4000:=by rw[<-hyo];exact hX.sz.on r.1
  rw[hyo]at vH;obtain⟨vd,ve,vp,hx⟩:=HMA.o;obtain⟨ad,cd,ae,ce,ap,cp,rfl,rfl,rfl⟩:=hx.slices;have HF0:=HFA;unfold AQ;have HX:=Aa hx;have hbd:=hx.d;have HWR:=Aa vH.o;generalize hDD:s.data++FC y.1.name.data.toList=DD at*;have HS:=Aa (show RES=(true,⟨s.left,DD,s.errs,s.path⟩)from by rw[vH.o];unfold Aj.write;rw[hDD]);clear hX hO hfo hrow hsel hc hok hv HMA HWR;go_enter func87,ntmps87;go_wp2_with fail;generalize w.alloc (.cells #[.pointer (some ⟨gs,os,none⟩),.slice aP fps.length cP] 209)=W1 at*;have HQD:=Aa (fun W (hW:vE W1 W)=>Rp W w0.heap.size (.slice ad s.data.length cd) s.data y.1.name (AT hx.d hW) hrm.d (by omega) (tQ hzA hW.size));rw[hDD]at HQD;have HM2:=Aa (fun W (hW:vE W1 W) w2 u d (hg:Gw W w0.heap.size (.slice ad s.data.length cd) w2 u d)=>BZ (AT hx.d hW) (hx.below hW).b (by decide) hg.gr);have HPG:=Aa (fun W (hW:vE W1 W) w2 u d (hg:Gw W w0.heap.size (.slice ad s.data.length cd) w2 u d)=>(hx.below hW).putG (w:=w) (HFA.o.bt hW hwz) hwz hg);have cM:W1.cell? ⟨M,4,none⟩=some (.slice ad s.data.length cd):=Ac hx.b 4;clear hx hDD hbd vH;go_region_with (go_at_call 129;refine(HQD.o _ ?_).mono ?_;(first|exact(tM _ _).drew|exact tM _ _);rintro _ w2 ⟨v',rfl,hg⟩;obtain⟨av,cv,rfl⟩:=An hg.own;have hM2:=(by first|exact HM2.o W1 (tM _ _) _ _ _ hg|exact HM2.o W1.drew (tM _ _).drew _ _ _ hg);have cM2:=Ac hM2;have fM2:=Am hM2;have lM2:=Ab hM2);all_goals(
   have HZ:=Aa (by first|exact HPG.o W1 (tM _ _) _ _ _ hg|exact HPG.o W1.drew (tM _ _).drew _ _ _ hg);clear hg hM2;go_wp2_with fail;go_ret;have HZ1:=HZ.o.1;have HZ2:=HZ.o.2;rw[HS.o];exact⟨rfl,⟨_,_,_,HZ1⟩,HZ2⟩)
 rw[uB n1]at vH;rw[tT n1]at N1;by_cases n2:x.name=FI
 ·rw[uC n2]at vH
  rw[uH n2]at N2;clear n2;have HTY:=Aa (kV (hX.s.below HBA.o) ((HBA.o.block _ (Ab hX.t.st.b)).trans hX.t.st.b) hX.ns HMA.o hrm hr2 hzA);rw[hX.en]at vH;unfold AQ at HTY⊢;clear hX hO hfo hrow hsel hc hok hv;go_enter func87,ntmps87;go_wp2_with fail;refine HTY.o.mono ?_;rintro _ w2 ⟨rfl,h2,f2⟩;have H2:=Aa h2;have F2:=Aa (HFA.o.trans f2);clear h2 f2;go_wp2_with fail;go_ret;rw[vH.o];exact⟨rfl,H2.o,F2.o⟩
 rw[uB n2]at vH;rw[tT n2]at N2;by_cases n3:x.name=Fk
 ·rw[uC n3]at vH
  rw[uH n3]at N3;obtain⟨a,hxa⟩:=hfo.ar n3;simp only[]at hxa;have yN:=HXA.o;rw[hxa]at yN z3;obtain⟨gA,cA',evA,hcA⟩:=Cn yN (fun _=>rfl) 0 a rfl;have eA:=(Value.slice.inj evA).1;subst eA;have y3:w0.cell? ⟨gA,3,none⟩=some (.string a.2.2.2):=by have:=hcA 3 _ rfl;simpa using this
  have a3:=Ah HBA.o y3;have lgA:=tR _ _ a3;have HTY:=Aa (kK (hX.s.below HBA.o) (hX.v.below HBA.o) ((HBA.o.block _ (Ab hX.t.st.b)).trans hX.t.st.b) a.2.2.2 (hX.fs a.2.2.2) HMA.o hrm hr2 hzA);have hft:KH E (Dc x).2.2=JT (LO.map Prod.fst) (LI.map Prod.fst) roles a.2.2.2:=by
   have earg:Dc x=a.2:=by unfold Dc;rw[hxa];rfl
   rw[earg];unfold KH JT Gv;rw[hX.eo,hX.ei,hX.er];cases DU (LO.map Prod.fst) (LI.map Prod.fst) a.2.2.2<;>rfl
  rw[hft]at vH;unfold AQ at HTY⊢;clear hX hO hfo hrow hsel hc hok hv hft hcA evA yN n3 hxa;go_enter func87,ntmps87;go_wp2_with fail;refine HTY.o.mono ?_;rintro _ w2 ⟨rfl,h2,f2⟩;have H2:=Aa h2;have F2:=Aa (HFA.o.trans f2);clear h2 f2;go_wp2_with fail;go_ret;rw[vH.o];exact⟨rfl,H2.o,F2.o⟩
 rw[uB n3]at vH;rw[tT n3]at N3;obtain⟨d,hd,hid,hps,hmet⟩:=hfo.or n1 n2 n3;simp only[]at hd hid hps hmet;rw[hyo]at hd;rw[hyo,hd]at vH;obtain⟨gF,oF,u,hFd,hTy,hFC⟩:=lV hX.s hX.g hy hd;have hdm:=Qx hd;have hdo:d∈(E.obj r.1).fields:=by rw[hyo];exact hdm.1
 have hfit:Fi E (Fm r d.name) d.ty:=xM.f d hdo (by rw[hyo,hdm.2];exact hd);have HEQ:=Aa (show RES=BE s.data.length (Da E (AR E f) r d (x,fps) s).1 (CA d.ty) (Da E (AR E f) r d (x,fps) s).2 from vH.o);have HTO:=Aa (fun(X:World) (hX':FT w0.heap.size kM w X) (hm:MK X w0.heap.size M T V pp.length s)=>kU hX hf5 hO (hb.trans hX'.below) hm hR h0 hf hp0 hd1 (hrow.ft hX') hrs hFd hTy hfit hsel (fun e=>⟨hid e,hX.ok.sch.idt _ (AJ.obj_mem xM.k) d hdo e⟩) hasz hps hmet hpl (hX'.own hv (by decide)));have hG:=Yb hX.sz (GK E f) (Jz hX.sz f) r hrs d (x,fps) s hR.p;have hP:=Sm E (GK E f) r d (x,fps) s;have hDL:=Ya E (Nn E f) r d (x,fps) s s.data.length (tL _);have hLE:=sE E f r d (x,fps) s;generalize Da E (AR E f) r d (x,fps) s=va at*;obtain⟨how1,sv⟩:=va;simp only[]at HEQ HTO hG hP hDL hLE;have hRV:RB 10000 25010050 sv:=by
  have q:=hR.gr hG.1 hP (by have:=hG.2;unfold LB at this;omega);simpa using q
 obtain⟨kt,rfl,lkt,ct⟩:=hTy.st;have HSE:=Aa (fun(X:World) (hX':MK X w0.heap.size M T V pp.length sv) (hz:w0.heap.size<=X.heap.size)=>Rq s.data.length how1 (CA d.ty) hX' (hRV.room (by omega) (by omega)) hDL (Qp hDL hd1) (.inl (by rw[hP.1];exact hp0)) hLE hz);have HFC:=Aa (fun(X:World) (hX':FT w0.heap.size kM w X)=>hFC X (hb.trans hX'.below));have HST:=Aa (fun(X:World) (hX':FT w0.heap.size kM w X)=>uV (((hb.trans hX'.below).cell (p:=⟨gs,os+2,none⟩) lgs).trans x2) (uV (((hb.trans hX'.below).cell (p:=⟨gF,oF+5,none⟩) (tR w0 _ hFd.c5)).trans hFd.c5) (uV (((hb.trans hX'.below).cell (p:=⟨kt,3,none⟩) lkt).trans ct) (hrow.a X hX').c0)));have lgF:=tR w0 _ hFd.c5;unfold AQ at HTO HSE⊢;clear hX hO hfo hrow hsel hc hok hv hFd hTy hFC hfit hid hps hmet hG hP hDL hLE hRV vH hdo hdm hd n1 n2 n3 xM hrs hyo hy ct;generalize CA d.ty=st at*;generalize BE s.data.length how1 st sv=z at*;obtain⟨zb,sz⟩:=z;simp only[]at HSE;have HEQ2:=Aa (show RES=(zb,sz)from HEQ.o);clear HEQ;go_enter func87,ntmps87;go_wp2_with fail;generalize w.alloc (.cells #[.pointer (some ⟨gs,os,none⟩),.slice aP fps.length cP] 209)=W1 at*;have HSS:=Aa (fun V' (hV:FT w0.heap.size kM W1 V')=>uV hV (uV (Ac (hV.at wI.o (by decide))) (uV (HST.o V' (HFA.o.trans hV)).1 (uV (HST.o V' (HFA.o.trans hV)).2.2.2 (uV (tV (Ab wI.o) hV.size) (uV (tV lgs (tQ hzA hV.size)) (tR _ _ (HST.o V' (HFA.o.trans hV)).2.2.2)))))));have HFC2:=Aa (HFC.o W1.drew HFA.o.dr);clear z2 z3;go_cut [7] (fun v7 wc=>v7=.pointer (some ⟨gF,oF,none⟩)/\vE W1 wc)
 case first=>
  go_region_held3 (fun V'=>FT w0.heap.size kM W1 V'/\(∀j,V'.cell? ⟨w.heap.size,j,none⟩=(#[.pointer (some ⟨gs,os,none⟩),.slice aP fps.length cP]:Array Value)[j]?)/\V'.cell? ⟨gs,os+2,none⟩=some (.string x.name)/\V'.cell? ⟨g,o,none⟩=some (.pointer (some ⟨gO,r.1*4,none⟩))/\w.heap.size<V'.heap.size/\gs<V'.heap.size/\g<V'.heap.size)
   (first|exact HSS.o _ (FT.refl _ _ _).dr|exact HSS.o _ ((FT.refl _ _ _).dr.bt b6 hzA))
   (first|(go_at_call 108;refine HFC2.o.mono ?_;rintro _ w6 ⟨rfl,b6⟩))
  all_goals(
   have HB6:=Aa (show vE W1 w6 from(tM _ _).drew.trans b6);clear b6
   (try go_wp2_with fail)
   go_meet;exact⟨rfl,HB6.o⟩)
 case rest=>
  obtain⟨rfl,b2⟩:=hcut;have F2:=Aa (HFA.o.bt b2 hwz);have H2:=Aa (HMA.o.below b2);have HK2:=Aa ((b2.block _ (Ab wI.o)).trans wI.o);obtain⟨vd,ve,vp,hx⟩:=HMA.o.below b2;obtain⟨ad,cd,ae,ce,ap,cp,rfl,rfl,rfl⟩:=hx.slices;have c2:=Ac hx.b;have l2:=Ab hx.b;have hz2:w0.heap.size<=wc.heap.size:=tQ hzA b2.size;have HTO2:=Aa (HTO.o wc.drew F2.o.dr (H2.o.below (tM _ _).drew));have HS2:=Aa (fun V' (hV:FT w0.heap.size kM wc V')=>uV hV (uV (Ac (hV.at HK2.o (by decide))) (uV (HST.o V' (F2.o.trans hV)).2.1 (uV (HST.o V' (F2.o.trans hV)).2.2.1 (uV (tV (Ab HK2.o) hV.size) (uV (tV lgF (tQ hz2 hV.size)) (tV lkt (tQ hz2 hV.size))))))));clear b2 hx HSS HFC2 HFC HMA;go_wp2_with fail;go_region_held3 (fun V'=>FT w0.heap.size kM wc V'/\(∀j,V'.cell? ⟨w.heap.size,j,none⟩=(#[.pointer (some ⟨gs,os,none⟩),.slice aP fps.length cP]:Array Value)[j]?)/\V'.cell? ⟨gF,oF+5,none⟩=some (.pointer (some ⟨kt,0,none⟩))/\V'.cell? ⟨kt,3,none⟩=some (.bool st)/\w.heap.size<V'.heap.size/\gF<V'.heap.size/\kt<V'.heap.size)
   (first|exact HS2.o _ (FT.refl _ _ _).dr|exact HS2.o _ ((FT.refl _ _ _).dr.trans f6)|exact HS2.o _ (((FT.refl _ _ _).dr.trans f6).trans f7))
   (first|(go_at_call 132;refine HTO2.o.mono ?_;rintro _ w6 ⟨rfl,h6,f6⟩)|(go_at_call 50;refine(HSE.o _ h6 (tQ hz2 ((FT.refl _ _ wc).dr.trans f6).size)).mono ?_;rintro _ w7 ⟨rfl,h7,f7⟩))
  all_goals(
   have H7:=Aa h7;have F7:=Aa (F2.o.trans (((FT.refl _ _ _).dr.trans f6).trans f7));clear h6 f6 h7 f7;go_wp2_with fail;go_ret;rw[HEQ2.o];exact⟨rfl,H7.o,F7.o⟩)
end
theorem JK.z{E:CB}{parts:List Ai}{whole:Nat}{m:List Bool}(h:JK E parts whole m):∀i,(∃T,Db E parts whole i T)->∀x∈(Ax parts i).sels,x.kind≠0->∃j,x.part=some j/\∃T,Db E parts whole j T:=by
 rintro i ⟨T,hT⟩ x hx hk;have hl:=h.loc i T hT x hx;unfold Jk De at hl;by_cases hc:x.conds.all (fun c=>Dm c.2 Jr true)=true
 ·rw[uC hc,uB hk]at hl
  cases hp:x.part with
  |none=>rw[hp]at hl;simp at hl
  |some j=>exact⟨j,rfl,_,.kid hT hx (by unfold Fr;rw[hp];simp only[Option.bind_some];rw[uB hk])⟩
 ·rw[uB hc]at hl;simp at hl
section
variable {w0:World} {S:Nat} {vR vO vI vU vN:Value} {LR:List (At×Value)} {LO:List AV} {LI:List (As×Value)} {LU:List (Au×Value)} {names:List vD} {T Mm gO Bs V:Nat} {vL:Value} {qs:List AE} {rows:List (vD×MR)} {vid:vD} {roles:List vD} {Bq:Nat} {pp:List Nat} {whole:Nat} {m:List Bool} {E:AJ} {M f:Nat}
theorem kN(hX:MX w0 S vR vO vI vU vN LR LO LI LU names T Mm gO Bs V vL qs rows vid roles Bq pp whole m E)(hf5:f+1<=5001)(hO:JI w0 gO LO T V pp whole m E M f):JI w0 gO LO T V pp whole m E M (f+1):=by
 intro w s r ps vps g o B2 l hb hM hR h0 hf hrow xM hrs hpo hpl hv;have hwz:=hb.size;have hrm:=hR.room (by omega) (by omega);obtain⟨y,hy⟩:∃y,LO[r.1]?=some y:=⟨_,tN (by have:=xM.k;rw[hX.eo,uP]at this;exact this)⟩;have hyo:E.obj r.1=y.1:=by unfold AJ.obj;rw[hX.eo,List.getD_eq_getElem?_getD,uD,hy];rfl
 have hZ:=hX.ok.safe.z;have HCO:=Aa (fun(X:World) (hX':FT w0.heap.size kM w X) (t:Aj) (hm:MK X w0.heap.size M T V pp.length t)=>(show Calls prog 84 #[.pointer (some ⟨M,0,none⟩),.pointer (some ⟨gO,r.1*4,none⟩),vps] X fun e w'=>∃vF L,e=.returned vF/\vE X w'/\Ko w' w0 Bq X.heap.size pp vF L/\L.map Prod.fst=Dt E.parts (AU (E.obj r.1) E.uns) ps from by
  obtain⟨vd,ve,vp,hx⟩:=hm;have q:=aD hX.s hX.g hX.p hX.n hX.ok.safe.pin hX.sl hX.ks hX.pl hZ y hy (hb.trans hX'.below) hx.b hX.t.st.b (hX'.own hv (by decide)) (fun p hp=>by
   obtain⟨T',h1,_⟩:=hpo.t p hp;exact⟨hX.ok.safe.lt h1,T',h1⟩) hpl
  rw[hyo,hX.eu];exact q))
 have HFO:=Aa (fun(x:QF) (hx:x∈Dt E.parts (AU (E.obj r.1) E.uns) ps)=>hX.ok.fld xM hpo hx);have HKS:=Aa (fun(x:QF) (hx:x∈Dt E.parts (AU (E.obj r.1) E.uns) ps)=>hX.sz.key _ _ x hx);have hcl:(Dt E.parts (AU (E.obj r.1) E.uns) ps).length<=10000000/\∀x∈Dt E.parts (AU (E.obj r.1) E.uns) ps,x.2.length<=10000000:=by
  have h1:=ZZ (of:=AU (E.obj r.1) E.uns) hX.ok.safe.pin hX.sl ps (fun p hp=>by obtain⟨T',h1,_⟩:=hpo.t p hp;exact hX.ok.safe.lt h1);have h2:=hX.pl;exact⟨by have:=YC (Dt E.parts (AU (E.obj r.1) E.uns) ps);omega,fun x hx=>by have:=Sz _ x hx;omega⟩
 have HCS:=Aa (fun(x:QF) (hx:x∈Dt E.parts (AU (E.obj r.1) E.uns) ps)=>(show∀a∈x.1.args,a.2.2.2.size<=4000 from by
  obtain⟨⟨p,hp,i,T',l1,t1,o1,x1,k1⟩, -⟩:=TJ hpo.t x hx;exact hX.ag _ (tO (KW x1)) x.1 x1))
 obtain⟨RES,vH⟩:∃RES,Hi (RES=AR E (f+1) r ps s):=⟨_,Aa rfl⟩;rw[<-vH.o];rw[AR]at vH;have HFM:=Aa (fun(X:World) (t:Aj) (x:Aq) (gs os:Nat) (fps:List Nat) (vfp:Value) (B3:Nat) (hX':FT w0.heap.size kM w X) (hm:MK X w0.heap.size M T V pp.length t) (h2:RB 0 0 t) (h3:0<=t.left) (h4:t.left<f) (h5:t.path≠[]) (h6:DL 1 t) (h7:(x,fps)∈Dt E.parts (AU (E.obj r.1) E.uns) ps) (h8:ET w0 Bq pp gs os x) (h9:X.ownsRow B3 89 1 vfp fps.length (Bw pp fps))=>kJ hX (by omega) hO (hb.trans hX'.below) hm h2 h3 h4 h5 h6 (hrow.ft hX') xM hrs (HFO.o _ h7) h8 (HCS.o _ h7) (hcl.2 _ h7) h9);have HGR:=Aa (fun(x:QF) (hx:x∈Dt E.parts (AU (E.obj r.1) E.uns) ps) {t t1:Aj}=>Wd hX.sz (GK E f) (Jz hX.sz f) r hrs (HKS.o x hx) (s:=t) (s1:=t1));have HDL:=Aa (fun(x:QF) (t:Aj) (n:Nat) (h:DL n t)=>Ua E (Nn E f) r x t n h);have HPL:=Aa (fun(x:QF) (t:Aj)=>Oi E (GK E f) r x t);have HGF:=Aa (fun(x:QF) (t:Aj) (hp:PB t)=>Ub hX.sz (GK E f) (Jz hX.sz f) r hrs x t hp);have HIM:=Aa (fun(c:QF) (l':List QF) (i how:Nat) (t:Aj)=>(show BX E (AR E f) r (c::l') i how t=_ from BX.eq_2 E (AR E f) r i how t c l'));have HIN:=Aa (fun(i how:Nat) (t:Aj)=>(show BX E (AR E f) r [] i how t=(how,t.write [125])from BX.eq_1 E (AR E f) r i how t));generalize BX E (AR E f) r=OL at*;generalize Cx E (AR E f) r=FM at*;generalize Dt E.parts (AU (E.obj r.1) E.uns) ps=FL at*;have HC0:=Aa (fun(X:World) (hX':FT w0.heap.size kM w X)=>(hrow.a X hX').c0);have HB:=Aa hb;have HW:=Aa (IP ⟨#[123]⟩ (by decide) hM hrm hwz);have HR1:=Aa (show RB 1 0 (s.write [123])from hR.write [123]);have HD1:=Aa (show DL 1 (s.write [123])from by show 1<=(s.data++[123]).length;simp);obtain⟨aP,cP,rfl⟩:=An hv;unfold AQ at HW HFM⊢;have HSW:=Aa (show(s.write [123]).path=s.path/\(s.write [123]).left=s.left from⟨rfl,rfl⟩);clear hb hM hR hX hO hrow xM hrs hpo hv hZ hyo hy HFO;generalize s.write [123]=s1 at*;have hcl1:=hcl.1;clear hcl;go_enter func51,ntmps51;go_wp2_with fail;refine HW.o.mono ?_;rintro _ w1 ⟨rfl,h1,f1⟩;have H1:=Aa h1;have F1:=Aa f1;have c0:=HC0.o w1 f1;have lg0:=tR w1 _ c0;have HCC:=Aa (HCO.o w1 f1 s1 h1);clear h1 f1 HW HCO;go_wp2_with fail;refine HCC.o.mono ?_;rintro _ w2 ⟨vF,L,rfl,b2,hco,hL⟩;have H2:=Aa (H1.o.below b2);have F2:=Aa (F1.o.bt b2 hwz);have HCU:=Aa hco;have HL:=Aa hL;have hLl:L.length<=10000000:=by have:=congrArg List.length hL;rw[uP]at this;omega
 obtain⟨aF,cF,rfl⟩:=An hco.f;have hw2:w0.heap.size<=w2.heap.size:=tQ hwz F2.o.size;clear b2 hco hL HCC H1 F1 c0;go_wp2_with fail;go_loopg [6,7,8,9,10,11,22] L.length (fun mm v6 v7 v8 v9 v10 v11 v22 wr=>∃(t how:Nat) (s':Aj),v22=.int .i64 t/\v7=.int .i64 how/\t<=L.length/\L.length-t<=mm/\MK wr w0.heap.size M T V pp.length s'/\FT w0.heap.size kM w wr/\Ko wr w0 Bq w1.heap.size pp (.slice aF L.length cF) L/\RB 1 0 s'/\s'.path=s1.path/\DL 1 s'/\s'.left<=s1.left/\RES=OL (FL.drop t) t how s')
 case atStart=>exact⟨0,0,s1,rfl,rfl,tU _,tL _,H2.o,F2.o,HCU.o,HR1.o,rfl,HD1.o,Int.le_refl _,vH.o⟩
 case round=>
  obtain⟨t,how,s',rfl,rfl,htl,htm,hM',hF',hC',hR',hp',hd',hl',hrel⟩:=hrel;have HM':=Aa hM';have HF':=Aa hF';have HC':=Aa hC';have HR':=Aa hR';have HP':=Aa hp';have HD':=Aa hd';have xQ:=Aa hrel;have hbz:=hF'.size;have hwr:w0.heap.size<=wr.heap.size:=tQ hwz hbz;clear hM' hF' hC' hR' hp' hd' hrel H2 F2 HCU;by_cases hlt:t<L.length
  ·have hx:=tN hlt
   have hmem:L[t]∈L:=List.getElem_mem hlt;generalize L[t]=c at hx hmem;obtain⟨⟨x,fps⟩,⟨gs,os⟩,vfp⟩:=c;have hxf:FL[t]?=some (x,fps):=by rw[<-HL.o,uD,hx];rfl
   have hdr:FL.drop t=(x,fps)::FL.drop (t+1):=by
    obtain⟨hlt2,e2⟩:=tP.1 hxf;rw[uT hlt2,e2]
   have HMEM:=Aa (tO hxf);obtain⟨gL,capL,e,hcell⟩:=Cn HC'.o.f (fun _=>rfl) t _ hx;have ea:=(Value.slice.inj e).1;subst ea;have y0:wr.cell? ⟨gL,t*2,none⟩=some (.pointer (some ⟨gs,os,none⟩)):=by simpa using hcell 0 _ rfl
   have y1:wr.cell? ⟨gL,t*2+1,none⟩=some vfp:=hcell 1 _ rfl;have lgL:=tR wr _ y0;have wU:=Aa (HC'.o.sel _ hmem);have HOWN:=Aa (HC'.o.own t _ hx);simp only[]at wU HOWN;obtain⟨aV,cV,rfl⟩:=An HOWN.o;have htI:(t:Int)<L.length:=by omega
   have HE0:=Aa (show RES=_ from by rw[xQ.o,hdr,HIM.o]);have hbA:=bA (tM wr.heap.size wr) (.cells #[.pointer (some ⟨gs,os,none⟩),.slice aV fps.length cV] 209);have wI:=Aa (tS wr (.cells #[.pointer (some ⟨gs,os,none⟩),.slice aV fps.length cV] 209));have HST:=Aa (VJ (HM'.o.below hbA) (HR'.o.room (by omega) (by omega)));have HFA:=Aa (HF'.o.bt hbA hwz);have HCA:=Aa (HC'.o.ft (B:=w0.heap.size) (FT.of_below hbA hwr));have HOA:=Aa (AT HOWN.o hbA);unfold AQ at HST;clear hcell hx hdr hmem hbA HM' HF' xQ hxf e HC' HOWN;have HSL:=Aa (show s'.step.left=s'.left-1 from rfl);by_cases hneg:s'.left-1<0
   ·have xD:decide ((0:Int)<=s'.left-1)=false:=by simp;omega
    have HE1:=Aa (show RES=(2,s'.step)from by rw[HE0.o,uC (by rw[HSL.o];exact hneg)]);rw[xD]at HST;clear xD hneg HE0;generalize s'.step=s2 at*;go_wp2_with fail;refine HST.o.mono ?_;rintro _ w3 ⟨rfl,h3,f3⟩;have H3:=Aa h3;have F3:=Aa (HFA.o.trans f3);clear h3 f3;go_wp2_with fail;go_ret;rw[HE1.o];exact⟨rfl,H3.o,F3.o⟩
   ·have xD:decide ((0:Int)<=s'.left-1)=true:=by simp;omega
    rw[xD]at HST;have hstep:¬s'.step.left<0:=by rw[HSL.o];exact hneg
    have hcs:=Qo t s';obtain⟨s2,hs2⟩:∃s2,s2=(if 0<t then s'.step.write [44]else s'.step):=⟨_,rfl⟩;have HE1:=Aa (show RES=OL (FL.drop (t+1)) (t+1) (if (FM (x,fps) ((s2.enter (AO (x,fps))).write (AO (x,fps)++[58]))).1=true then how else 2) ((FM (x,fps) ((s2.enter (AO (x,fps))).write (AO (x,fps)++[58]))).2.leave s2.path.length)from by rw[HE0.o,uB hstep,hs2]);have HRS:=Aa (show Ej s'.step from by
     have q:=HR'.o.room (by omega) (by omega);exact⟨q.d,q.e,q.p,by rw[HSL.o];omega,by rw[HSL.o];have:=q.h;omega⟩)
    have HWC:=Aa (fun(X:World) (hX:MK X w0.heap.size M T V pp.length s'.step) (hz:w0.heap.size<=X.heap.size)=>IP ⟨#[44]⟩ (by decide) hX HRS.o hz);unfold AQ at HWC;have HS2:=Aa hs2;rw[<-hs2]at hcs;obtain⟨e1,e2,e3,e4⟩:=hcs;have xG:=Aa (uV hstep (uV e1 (uV e2 (uV e3 e4))));have hl2:s2.left=s'.left-1:=e1;clear xD HE0 hs2 e1 e2 e3 e4 hstep;go_wp2_with fail;refine HST.o.mono ?_;rintro _ w3 ⟨rfl,h3,f3⟩;have H3:=Aa h3;have F3:=Aa (HFA.o.trans f3);have HBK3:=Aa (f3.at wI.o (by decide));have HC3:=Aa (HCA.o.ft f3);have HO3:=Aa (f3.own HOA.o (by decide));have hz3:w0.heap.size<=w3.heap.size:=tQ hwz (HFA.o.trans f3).size;clear h3 f3 HST HFA wI y0 y1 HCA HOA
    go_upto_if 31 with fail
    go_cut [] (fun wc=>MK wc w0.heap.size M T V pp.length s2/\FT w0.heap.size kM w wc/\wc.heap[wr.heap.size]?=some (.cells #[.pointer (some ⟨gs,os,none⟩),.slice aV fps.length cV] 209 (0,0))/\Ko wc w0 Bq w1.heap.size pp (.slice (some ⟨gL,0,none⟩) L.length cF) L/\wc.ownsRow w1.heap.size 89 1 (.slice aV fps.length cV) fps.length (Bw pp fps))
    case first=>
     rcases Nat.eq_zero_or_pos t with e0|e0
     ·have HS3:=Aa (show s2=s'.step from by rw[HS2.o,uB (by omega)])
      have hd0:decide ((0:Int)<(t:Int))=false:=by simp;omega
      go_wp2_with fail;go_meet;rw[HS3.o];exact⟨H3.o,F3.o,HBK3.o,HC3.o,HO3.o⟩
     ·have HS3:=Aa (show s2=s'.step.write [44]from by rw[HS2.o,uC e0])
      have hd0:decide ((0:Int)<(t:Int))=true:=by simp;omega
      have HWX:=Aa (HWC.o w3 H3.o hz3);clear HWC;go_wp2_with fail;refine HWX.o.mono ?_;rintro _ w4 ⟨rfl,h4,f4⟩;go_wp2_with fail;go_meet;rw[HS3.o];exact⟨h4,F3.o.trans f4,f4.at HBK3.o (by decide),HC3.o.ft f4,f4.own HO3.o (by decide)⟩
    case rest=>
     obtain⟨h4,f4,hk4,hc4,ho4⟩:=hcut;have H4:=Aa h4;have F4:=Aa f4;have HK4:=Aa hk4;have HC4:=Aa hc4;have HO4:=Aa ho4;have hbc:vE w0 wc:=HB.o.trans f4.below;have hz4:=hbc.size;obtain⟨aA,cA,aC,cC,hc,hok⟩:=wU.o.ex;have x1:=Ah hbc (show w0.cell? ⟨gs,os+1,none⟩=some (.string x.key)from hc 1 _ rfl);have lgs:=tR wc _ x1;have ck:=Ac hk4;have lk:=Ab hk4;have hkey:x.key.size<=4000:=HKS.o _ HMEM.o;clear h4 f4 hk4 hc4 ho4 hc hok H3 F3 HBK3 HC3 HO3 HWC;obtain⟨KB,hKB⟩:∃KB:vD,KB={data:=#[34]}++x.key++{data:=#[34]}:=⟨_,rfl⟩;have hKL:KB.data.toList=AO (x,fps):=by rw[hKB];simp[AO,ByteArray.data_append]
     have hKM:(KB++{data:=#[58]}:vD).data.toList=AO (x,fps)++[58]:=by rw[<-hKL];simp[ByteArray.data_append]
     have hkl:=UH (x,fps);simp only[]at hkl;have hKs:KB.size<=4002:=by
      have:KB.size=KB.data.toList.length:=by simp
      rw[this,hKL];omega
     have hKt:(KB++{data:=#[58]}:vD).size<=4003:=by
      have:(KB++{data:=#[58]}:vD).size=(KB++{data:=#[58]}:vD).data.toList.length:=by simp;rfl
      rw[this,hKM,uE,List.length_singleton];omega
     have hr2:Ej s2:=by
      obtain⟨q1,q2,q3,q4,q5⟩:=xG.o;have q:=HRS.o;have qq:=HR'.o.d;exact⟨by omega,by rw[q4];exact q.e,by rw[q3];exact q.p,by rw[q2];exact q.l,by rw[q2];exact q.h⟩
     have HEN:=Aa (Vz KB (by omega) H4.o hr2 hz4);rw[hKL,hKB]at HEN;have hkne:AO (x,fps)≠[]:=by unfold AO;simp
     have hstp:¬s'.step.left<0:=by have:=xG.o.1;omega
     have yF:=Aa (show RB 0 0 ((s2.enter (AO (x,fps))).write (AO (x,fps)++[58]))from HR'.o.paid (by omega) (by omega) hstp xG.o.2.1 xG.o.2.2.1 xG.o.2.2.2.1 xG.o.2.2.2.2 (AO (x,fps)) (AO (x,fps)++[58]) (by omega) (by rw[uE,List.length_singleton];omega) rfl);have hr3:Ej (s2.enter (AO (x,fps))):=by
      have q:=yF.o.room (by omega) (by omega);exact⟨hr2.d,hr2.e,q.p,hr2.l,hr2.h⟩
     have HWK:=Aa (fun(X:World) (hX:MK X w0.heap.size M T V pp.length (s2.enter (AO (x,fps)))) (hz:w0.heap.size<=X.heap.size)=>IP (KB++{data:=#[58]}) (by omega) hX hr3 hz);rw[hKM,hKB]at HWK;have HP3:=Aa (show((s2.enter (AO (x,fps))).write (AO (x,fps)++[58])).path≠[]from TR s2 _ hkne);have HD3:=Aa (show DL 1 ((s2.enter (AO (x,fps))).write (AO (x,fps)++[58]))from by
      show 1<=(s2.data++(AO (x,fps)++[58])).length;simp;omega)
     have hl3:((s2.enter (AO (x,fps))).write (AO (x,fps)++[58])).left=s2.left:=rfl;have HPE:=Aa (show s2.path.length<=((s2.enter (AO (x,fps))).write (AO (x,fps)++[58])).path.length from by
      show _<=(Cj s2.path++AO (x,fps)).length;have h1:=Qr s2.path (AO (x,fps));have h2:=congrArg List.length h1;rw[List.length_take]at h2;omega)
     have HRO:=Aa (HGR.o (x,fps) HMEM.o HR'.o.p (by omega) xG.o.2.1 xG.o.2.2.1 xG.o.2.2.2.1 xG.o.2.2.2.2);unfold AQ at HEN HWK;generalize s2.enter (AO (x,fps))=s2e at*;generalize s2e.write (AO (x,fps)++[58])=s3 at*;have HG3:=Aa (HGF.o (x,fps) s3 yF.o.p);have HL3:=Aa (HPL.o (x,fps) s3);have HDV:=Aa (HDL.o (x,fps) s3 1 HD3.o);have HFX:=Aa (fun(X:World) (hX:FT w0.heap.size kM w X) (hm:MK X w0.heap.size M T V pp.length s3) (ho:X.ownsRow w1.heap.size 89 1 (.slice aV fps.length cV) fps.length (Bw pp fps))=>HFM.o X s3 x gs os fps (.slice aV fps.length cV) w1.heap.size hX hm yF.o (by rw[hl3,hl2];omega) (by rw[hl3,hl2];have:=HSW.o.2;omega) HP3.o HD3.o HMEM.o wU.o ho);generalize FM (x,fps) s3=z at*;obtain⟨zb,sz⟩:=z;simp only[]at HE1 HG3 HL3 HDV HRO HFX;have HRZ:=Aa (show RB 10000010 50020100 sz from by
      have q:=yF.o.gr HG3.o.1 HL3.o (by have:=HG3.o.2;unfold LB at this;omega);simpa using q)
     have HLV5:=Aa (fun(X:World) (hX:MK X w0.heap.size M T V pp.length sz)=>VC s2.path.length hX (HRZ.o.room (by omega) (by omega)) (by rw[HL3.o.1];exact HPE.o));unfold AQ at HLV5;have HRN:=Aa (show RB 1 0 (sz.leave s2.path.length)from by
      have q:=HR'.o.gr HRO.o.2.1 HRO.o.2.2.1 (by show _<=sz.left;have:=HRO.o.2.2.2;omega);simpa using q)
     have HPN:=Aa (show(sz.leave s2.path.length).path=s1.path from HRO.o.2.2.1.1.trans HP'.o);have HDN:=Aa (show DL 1 (sz.leave s2.path.length)from HDV.o);have HLN:=Aa (show(sz.leave s2.path.length).left<=s1.left from Int.le_trans HRO.o.2.2.1.2 hl');generalize sz.leave s2.path.length=s5 at*;clear HG3 HRO HFM HGR HPL HDL HGF hr2 hr3 hl3 HRS xG hKL hKM hKB hKs hKt hkne hstp hkl;go_wp2_with fail;refine HEN.o.mono ?_;rintro _ w5 ⟨rfl,h5,f5⟩;have F5:=Aa (F4.o.trans f5);have HWK2:=Aa (HWK.o w5 h5 (tQ hz4 f5.size));have HK5:=Aa (f5.at HK4.o (by decide));have HC5:=Aa (HC4.o.ft f5);have HO5:=Aa (f5.own HO4.o (by decide));clear h5 f5 HEN HWK H4 F4 HK4 HC4 HO4 ck x1;go_wp2_with fail;refine HWK2.o.mono ?_;rintro _ w6 ⟨rfl,h6,f6⟩;have F6:=Aa (F5.o.trans f6);have hk6:=f6.at HK5.o (by decide);have c6:=Ac hk6;have l6:=Ab hk6;have HC6:=Aa (HC5.o.ft f6);have HFX2:=Aa (HFX.o w6 F6.o h6 (f6.own HO5.o (by decide)));clear h6 f6 HWK2 HK5 HC5 HO5 hk6 HFX;go_wp2_with fail;refine HFX2.o.mono ?_;rintro _ w7 ⟨rfl,h7,f7⟩;have HL7:=Aa (HLV5.o w7 h7);have F7:=Aa (F6.o.trans f7);have HC7:=Aa (HC6.o.ft f7);clear h7 f7 HFX2 HC6 c6;cases zb;all_goals(
      go_wp2_with fail;refine HL7.o.mono ?_;rintro _ w8 ⟨rfl,h8,f8⟩;have H8:=Aa h8;have F8:=Aa (F7.o.trans f8);have HC8:=Aa (HC7.o.ft f8);clear h8 f8;go_wp2_with fail;go_roundg (L.length-(t+1))
      case measure=>omega
      case rel=>exact⟨t+1,_,s5,by go_num,rfl,by omega,tL _,H8.o,F8.o,HC8.o,HRN.o,HPN.o,HDN.o,HLN.o,HE1.o⟩)
  ·have ht:t=L.length:=by omega
   subst ht;have HE:=Aa (show RES=(how,s'.write [125])from by rw[xQ.o,show L.length=FL.length from by rw[<-HL.o,uP],List.drop_length,HIN.o]);have HWE:=Aa (IP ⟨#[125]⟩ (by decide) HM'.o (HR'.o.room (by omega) (by omega)) hwr);unfold AQ at HWE;clear xQ;go_wp2_with fail;refine HWE.o.mono ?_;rintro _ w3 ⟨rfl,h3,f3⟩;have H3:=Aa h3;have F3:=Aa (HF'.o.trans f3);clear h3 f3;go_wp2_with fail;go_ret;rw[HE.o];exact⟨rfl,H3.o,F3.o⟩
theorem VH(hX:MX w0 S vR vO vI vU vN LR LO LI LU names T Mm gO Bs V vL qs rows vid roles Bq pp whole m E):∀f,f<=5001->JI w0 gO LO T V pp whole m E M f
 |0,_=>fun w s r ps vps g o B2 l _ _ _ h0 hf _ _ _ _ _ _=>by omega
 |f+1,h=>kN hX h (VH hX f (by omega))
end
def Lp(s:Aj):vD:=(if s.errs=[]then(⟨#[123,34,100,97,116,97,34,58]⟩++⟨s.data.toArray⟩:vD)else⟨#[123,34,100,97,116,97,34,58]⟩++⟨s.data.toArray⟩++(⟨#[44,34,101,114,114,111,114,115,34,58,91]⟩++⟨s.errs.toArray⟩++⟨#[93]⟩))++⟨#[125]⟩
theorem jY{w:World}{B0 M T V n:Nat}{s:Aj}(h:MK w B0 M T V n s)(hr:Ej s):Calls prog 25 #[.pointer (some ⟨M,0,none⟩)] w fun e w'=>e=.returned (.string (Lp s))/\w'=w:=by
 obtain⟨vd,ve,vp,hx⟩:=h;obtain⟨ad,cd,ae,ce,ap,cp,rfl,rfl,rfl⟩:=hx.slices;have hcd:=MM w B0 _ s.data hx.d;have hce:=MM w B0 _ s.errs hx.e;have c:=Ac hx.b;have l:=Ab hx.b;have hsd:(⟨s.data.toArray⟩:vD).size<=70000000000000:=by have:=hr.d;show s.data.toArray.size<=_;simpa using this
 have hse:(⟨s.errs.toArray⟩:vD).size<=70000000000000:=by have:=hr.e;show s.errs.toArray.size<=_;simpa using this
 have HQ:=Aa (Lp.eq_1 s);have HEL:=Aa (show s.errs=[]↔s.errs.length=0 from⟨fun e=>by rw[e];rfl,tZ⟩);generalize Lp s=FF at*;generalize (⟨s.data.toArray⟩:vD)=DB at*;generalize (⟨s.errs.toArray⟩:vD)=EB at*;have hrd:=hr.d;have hre:=hr.e;generalize s.data.length=dl at*;generalize s.errs.length=el at*;clear hx hr;rcases Nat.eq_zero_or_pos el with e0|e0
 ·subst e0
  have HF:=Aa (show FF=({data:=#[123,34,100,97,116,97,34,58]}++DB)++{data:=#[125]}from by rw[HQ.o,uC (HEL.o.2 rfl)]);go_enter func25,ntmps25;go_wp2_with fail;go_ret;rw[HF.o];exact⟨rfl,rfl⟩
 ·have hd0:decide ((0:Int)<(el:Int))=true:=by simp;omega
  have HF:=Aa (show FF=({data:=#[123,34,100,97,116,97,34,58]}++DB++({data:=#[44,34,101,114,114,111,114,115,34,58,91]}++EB++{data:=#[93]}))++{data:=#[125]}from by rw[HQ.o,uB (fun e=>by have:=HEL.o.1 e;omega)]);go_enter func25,ntmps25;go_wp2_with fail;go_ret;rw[HF.o];exact⟨rfl,rfl⟩
def Co(objs:List Ap)(rows:List (vD×MR)):MR:=(Fp rows bE).getD ((Ae (objs.map Ap.name) bQ).toNat,[])
def Fj(E:AJ)(root:MR)(whole:Nat)(s:Aj):Aj:=(BE 0 (AR E 5001 root [whole] s).1 false (AR E 5001 root [whole] s).2).2
theorem lY(E:AJ)(f:Nat)(r:MR)(ps:List Nat)(s:Aj):DL 1 (AR E (f+1) r ps s).2:=by
 rw[AR];exact Rv E (Nn E f) r _ 0 0 (s.write [123]) 1 (by show 1<=(s.data++[123]).length;simp)
theorem Wn(w:World)(B:Nat)(e:TypeId)(u:Value)(hB:B<=w.heap.size):(w.alloc (.cells #[u] e)).ownsRow B e 1 (.slice (some ⟨w.heap.size,0,none⟩) 1 1) 1 [u]:=
 ⟨rfl,.inr ⟨w.heap.size,1,#[u],rfl,hB,tS w _,tL _,by unfold maxLen;omega,rfl,rfl⟩⟩
theorem qN{w0 w:World}{gO:Nat}{LO:List AV}{b k:Nat}(hk:k<LO.length)(hb:w.heap[b]?=some (.cells #[.pointer (some ⟨gO,k*4,none⟩),.string ⟨#[]⟩,.slice none 0 0] 134 (0,0))):Ha w0 w gO LO b 0 [] (k,[]):=by
 refine⟨fun X hX=>?_,fun n=>?_⟩
 ·have h:=hX.at hb (by decide)
  exact⟨hk,Ac h 0,⟨.slice none 0 0,Ac h 2,⟨none,0,rfl,tL _,.inl rfl⟩⟩,by simp,rfl,fun j c x hc=>by simp at hc,fun c hc=>by cases hc⟩
 ·exact⟨rfl,rfl,rfl,rfl,[],rfl,.inl rfl,fun i f x hf=>by simp at hf⟩
section
variable {w0:World} {S:Nat} {vR vO vI vU vN:Value} {LR:List (At×Value)} {LO:List AV} {LI:List (As×Value)} {LU:List (Au×Value)} {names:List vD} {T Mm gO Bs V:Nat} {vL:Value} {qs:List AE} {rows:List (vD×MR)} {vid:vD} {roles:List vD} {Bq:Nat} {pp:List Nat} {whole:Nat} {m:List Bool} {E:AJ} {M:Nat}
theorem jX(hX:MX w0 S vR vO vI vU vN LR LO LI LU names T Mm gO Bs V vL qs rows vid roles Bq pp whole m E)(hr1:Jm E (Co (LO.map Prod.fst) rows))(hr2:Ei (Co (LO.map Prod.fst) rows))(hr3:Mt E whole m (Co (LO.map Prod.fst) rows) [whole])(hq:¬Ae (LO.map oN) bQ<0)
 {w:World} {s:Aj} (hb:vE w0 w) (hM:MK w w0.heap.size M T V pp.length s) (hR:RB 0 0 s) (h0:0<=s.left) {kw:Nat} (hkw:pp[whole]?=some kw):
 Calls prog 24 #[.pointer (some ⟨M,0,none⟩),.pointer (some ⟨kw,0,none⟩)] w (AQ w w0.heap.size M T V pp.length (.tuple #[]) (Fj E (Co (LO.map Prod.fst) rows) whole s)):=by
 have hwz:=hb.size;have hpts:Bw pp [whole]=[.pointer (some ⟨kw,0,none⟩)]:=by simp[Bw,AM,hkw]
 have HOB:=Aa (fun(X:World) (g o:Nat) (l:List BR) (hX':FT w0.heap.size kM w X) (hm:MK X w0.heap.size M T V pp.length s) (hrow:Ha w0 X gO LO g o l (Co (LO.map Prod.fst) rows)) (b:Nat) (hv:X.ownsRow w0.heap.size 89 1 (.slice (some ⟨b,0,none⟩) 1 1) 1 (Bw pp [whole]))=>VH hX 5001 (tL _) X s (Co (LO.map Prod.fst) rows) [whole] (.slice (some ⟨b,0,none⟩) 1 1) g o w0.heap.size l (hb.trans hX'.below) hm hR h0 (by have:=hR.h;omega) hrow hr1 hr2 hr3 (by simp) hv);have hG:=(Jz hX.sz 5001).g (Co (LO.map Prod.fst) rows) [whole] s hr2 hR.p;have hLb:=(Jz hX.sz 5001).l (Co (LO.map Prod.fst) rows) [whole] s hr2 hR.p;have hP:=GK E 5001 (Co (LO.map Prod.fst) rows) [whole] s;have hDL:=lY E 5000 (Co (LO.map Prod.fst) rows) [whole] s;have hLE:=Wb E 5001 (Co (LO.map Prod.fst) rows) [whole] s;have HQ:=Aa (Fj.eq_1 E (Co (LO.map Prod.fst) rows) whole s);generalize Fj E (Co (LO.map Prod.fst) rows) whole s=FF at*;generalize AR E 5001 (Co (LO.map Prod.fst) rows) [whole] s=va at*;obtain⟨how1,sv⟩:=va;simp only[]at HQ HOB hG hP hDL hLE hLb;have hRV:RB 2 0 sv:=by
  have q:=hR.gr hG hP (by unfold LB at hLb;omega);simpa using q
 have HSE:=Aa (fun(X:World) (hX':MK X w0.heap.size M T V pp.length sv) (hz:w0.heap.size<=X.heap.size)=>Rq 0 how1 false hX' (hRV.room (by omega) (by omega)) (tU _) (Qp hDL (by omega)) (.inr rfl) hLE hz);have HFR:=Aa (Uf hX.t hb ⟨#[]⟩ (by decide));have HOJ:=Aa (Nx w S vR vO vI vU vN LR LO LI LU names bQ (hX.s.below hb));have hTb:=(hb.block _ (Ab hX.t.st.b)).trans hX.t.st.b;have cT:=Ac hTb;have lT:=Ab hTb;have hcM:=MK.c01 ⟨s,hM⟩;have cM:=hcM.1;have lM:=hcM.2.2;have HM:=Aa hM;have HB:=Aa hb;obtain⟨c0,hv0⟩:=hX.g;obtain⟨kq,hkq⟩:∃kq:Nat,Ae (LO.map oN) bQ=kq:=⟨_,(Int.toNat_of_nonneg (by omega)).symm⟩;rw[show AC vO 4 (Ae (LO.map oN) bQ)=.pointer (some ⟨gO,kq*4,none⟩)from by rw[hv0];unfold AC;rw[uB hq,hkq];rfl]at HOJ;have hkql:kq<LO.length:=by have h2:=(Hn (LO.map oN) bQ).2;rw[uP]at h2;omega
 have HRT:=Aa (Co.eq_1 (LO.map Prod.fst) rows);rw[show(LO.map Prod.fst).map Ap.name=LO.map oN from by rw[List.map_map];rfl,hkq,uO]at HRT;have HFE:=Aa (show Fp rows bE=Fp rows ⟨#[]⟩from rfl);generalize Co (LO.map Prod.fst) rows=RT at*;rw[HFE.o]at HRT;generalize Fp rows ⟨#[]⟩=fr at*;have HPT:=Aa hpts;unfold AQ at HOB HSE⊢;clear hX hb hM hR hr1 hr2 hr3 hcM hTb hpts hkq hG hP hDL hLE hRV hLb hv0 hq HFE;generalize BE 0 how1 false sv=z at*;obtain⟨zb,sz⟩:=z;simp only[]at HQ HSE;go_enter func24,ntmps24;go_wp2_with fail;refine HFR.o.mono ?_;rintro _ w1 ⟨⟨q,rfl,hq⟩,hw1⟩;have hw1:=hw1.symm;subst hw1;cases fr with
 |none=>
  have e:q=none:=hq;subst e;have HRW:=Aa (show RT=(kq,[])from HRT.o);clear hq HRT;go_wp2_with fail;refine HOJ.o.mono ?_;rintro _ w2 ⟨rfl,b2⟩;have hbA:=bA (tM w2.heap.size w2) (.cells #[.pointer (some ⟨gO,kq*4,none⟩),.string ⟨#[]⟩,.slice none 0 0] 134);have HN2:=Aa (tS w2 (.cells #[.pointer (some ⟨gO,kq*4,none⟩),.string ⟨#[]⟩,.slice none 0 0] 134));have HB2:=Aa (bT b2 hbA);clear b2 hbA HOJ cT cM;go_upto_region 3 with fail;generalize w2.alloc (.cells #[.pointer (some ⟨gO,kq*4,none⟩),.string ⟨#[]⟩,.slice none 0 0] 134)=W2 at*;have hbB:=bA (tM W2.heap.size W2) (.cells #[.pointer (some ⟨kw,0,none⟩)] 89);have hz2:w0.heap.size<=W2.heap.size:=tQ hwz HB2.o.size;have HO:=Aa (Wn W2 w0.heap.size 89 (.pointer (some ⟨kw,0,none⟩)) hz2);have F3:=Aa (show FT w0.heap.size kM w _ from FT.of_below (bT HB2.o hbB) hwz);have HO3:=Aa (HOB.o _ w2.heap.size 0 [] F3.o (HM.o.below (bT HB2.o hbB)) (by rw[HRW.o];exact(qN hkql HN2.o).ft (FT.of_below hbB hz2)) W2.heap.size (by rw[HPT.o];exact HO.o));have hz3:w0.heap.size<=(W2.alloc (.cells #[.pointer (some ⟨kw,0,none⟩)] 89)).heap.size:=tQ hwz F3.o.size;clear hbB HO HOB HRW;go_wp2_with fail;refine HO3.o.mono ?_;rintro _ w4 ⟨rfl,h4,f4⟩;have HSX:=Aa (HSE.o w4 h4 (tQ hz3 f4.size));have F4:=Aa (F3.o.trans f4);clear h4 f4 HO3;go_wp2_with fail;refine HSX.o.mono ?_;rintro _ w5 ⟨rfl,h5,f5⟩;have H5:=Aa h5;have F5:=Aa (F4.o.trans f5);clear h5 f5 HSX;go_wp2_with fail;go_end0;rw[HQ.o];exact⟨rfl,H5.o,F5.o⟩
 |some r=>
  obtain⟨g,o,l,e,hr⟩:=hq;subst e;have HRW:=Aa (show RT=r from HRT.o);have HRS:=Aa hr;clear hr HRT HOJ;have hbB:=bA (tM w.heap.size w) (.cells #[.pointer (some ⟨kw,0,none⟩)] 89);have HO:=Aa (Wn w w0.heap.size 89 (.pointer (some ⟨kw,0,none⟩)) hwz);have F3:=Aa (show FT w0.heap.size kM w _ from FT.of_below hbB hwz);have HO3:=Aa (HOB.o _ g o l F3.o (HM.o.below hbB) (by rw[HRW.o];exact Ha.of HRS.o (HB.o.trans (hbB.mono hwz))) w.heap.size (by rw[HPT.o];exact HO.o));have hz3:w0.heap.size<=(w.alloc (.cells #[.pointer (some ⟨kw,0,none⟩)] 89)).heap.size:=tQ hwz F3.o.size;clear hbB HO HOB HRW;go_wp2_with fail;refine HO3.o.mono ?_;rintro _ w4 ⟨rfl,h4,f4⟩;have HSX:=Aa (HSE.o w4 h4 (tQ hz3 f4.size));have F4:=Aa (F3.o.trans f4);clear h4 f4 HO3;go_wp2_with fail;refine HSX.o.mono ?_;rintro _ w5 ⟨rfl,h5,f5⟩;have H5:=Aa h5;have F5:=Aa (F4.o.trans f5);clear h5 f5 HSX;go_wp2_with fail;go_end0;rw[HQ.o];exact⟨rfl,H5.o,F5.o⟩
end
end Go.Proofs.YtadneapobijejaaGreatDoor
