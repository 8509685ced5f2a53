import Derived.Test.YtadneapobijejaaGreatDoorC44
import Derived.Test.YtadneapobijejaaGreatDoorC39
import Derived.Test.YtadneapobijejaaGreatDoorC24
namespace Go.Proofs.YtadneapobijejaaGreatDoor
set_option maxHeartbeats 20000000
set_option maxRecDepth 100000
open Go.RowKit Tryz
open Go.Maps Tryz
theorem IG.ft{w X:World}{B:Nat}{K:List TypeId}{v:Nat}{id:vD}{roles:List vD}(h:IG w v id roles)(hf:FT B K w X)(h1:110∉K)(h9:9∉K):IG X v id roles:=by
 obtain⟨⟨a,c,B',g1,g2⟩,g3⟩:=h;exact⟨⟨a,c,B',hf.at g1 h1,hf.own g2 h9⟩,g3⟩
theorem IG.below{w X:World}{v:Nat}{id:vD}{roles:List vD}(h:IG w v id roles)(hb:vE w X):IG X v id roles:=by
 obtain⟨⟨a,c,B',g1,g2⟩,g3⟩:=h;exact⟨⟨a,c,B',(hb.block _ (Ab g1)).trans g1,AT g2 hb⟩,g3⟩
theorem BQ.ft{w X:World}{B M n:Nat}{K:List TypeId}{D:DataW Unit}(h:BQ w M n D)(hf:FT B K w X):BQ X M n D:=by
 obtain⟨es,clock,hb,F,hs,hD⟩:=h;exact⟨es,clock,hf.typ M _ hb (fun cs t fr e=>by cases e),F,hs,hD⟩
def Ci(t:vD):vD:=⟨#[123,34,101,114,114,111,114,115,34,58,91,123,34,109,101,115,115,97,103,101,34,58,34]⟩++t++⟨#[34,125,93,125]⟩
theorem IX(w:World)(t:vD)(ht:t.size<=1000):Calls prog 19 #[.string t] w fun e w'=>e=.returned (.string (Ci t))/\w'=w:=by
 have HQ:=Aa (Ci.eq_1 t);generalize Ci t=FF at*;go_enter func19,ntmps19;go_wp2_with fail;go_ret;rw[HQ.o];exact⟨rfl,rfl⟩
def Mf:vD:=⟨#[115,121,110,116,97,120]⟩
def Pr:vD:=⟨#[114,111,108,101]⟩
def Pq:vD:=⟨#[111,112,101,114,97,116,105,111,110]⟩
def Pp:vD:=⟨#[102,114,97,103,109,101,110,116]⟩
def NH:vD:=⟨#[118,97,114,105,97,98,108,101]⟩
def NG:vD:=⟨#[115,101,108,101,99,116,105,111,110]⟩
def GV:vD:=⟨#[98,117,100,103,101,116]⟩
def CE(Q:Qy):Nat:=match Q.ops with
 |[]=>0
 |o::_=>o.2
def Ec(c:Be)(rows:List (vD×MR))(roles:List vD)(vid:vD)(parts:List Ai):AJ:=⟨c.objs,c.ifs,c.uns,c.names,roles,parts,Eg c.objs roles vid rows⟩
def Jx(E:AJ)(root:MR)(whole:Nat)(b:Int):vD:=if (Fj E root whole ⟨b,[],[],[]⟩).left<0 then Ci GV else Lp (Fj E root whole ⟨b,[],[],[]⟩)
def Tf(c:Be)(rows:List (vD×MR))(roles:List vD)(vid:vD)(Q:Qy)(b:Int):Option AL->vD
 |none=>Ci NH
 |some l=>if In ⟨c.objs,c.ifs,c.uns,roles⟩ (Ds l (Cm Q)).parts (CE Q)=false then Ci NG else if b<0\/5000<b then Ci GV else Jx (Ec c rows roles vid (Ds l (Cm Q)).parts) (Co c.objs rows) (CE Q) b
def My(c:Be)(rows:List (vD×MR))(vG vid qt vt:vD)(b:Int):vD:=
 if Eb (BD (Af qt)).2=false\/(FZ (Af vt)).2=false then Ci Mf
 else if Fq c.roles vG=[]then Ci Pr
 else if (BD (Af qt)).1.ops.length≠1 then Ci Pq
 else if Kb (BD (Af qt)).1=false then Ci Pp
 else Tf c rows (Fq c.roles vG) vid (BD (Af qt)).1 b (Fl (FZ (Af vt)).1 (Hu (Cm (BD (Af qt)).1)) [])
structure PO(c:Be)(rows:List (vD×MR))(roles:List vD)(vid:vD)(parts:List Ai)(whole:Nat):Prop where
 ks:∀P∈parts,∀x∈P.sels,x.key.size<=4000
 ag:∀P∈parts,∀x∈P.sels,∀a∈x.args,a.2.2.2.size<=4000
 sz:Ia (Ec c rows roles vid parts)
 rs:Ei (Co c.objs rows)
 ro:Jm (Ec c rows roles vid parts) (Co c.objs rows)
 ok:∃m,Ms (Ec c rows roles vid parts) whole m/\Mt (Ec c rows roles vid parts) whole m (Co c.objs rows) [whole]
theorem EQ.sl{X:World}{B0 q:Nat}{Q:Qy}{ps:List Nat}(h:EQ X B0 q Q ps):∀P∈Q.parts,P.sels.length<=1000:=fun P hP=>by
 obtain⟨j,hj⟩:=List.getElem?_of_mem hP;obtain⟨k,vS,L,h1,h2,h3,h4,h5,h6,h7⟩:=(h.pt j P hj).ex;rw[<-h4,uP];exact h6
section
variable {w:World} {S:Nat} {vR vO vI vU vN:Value} {LR:List (At×Value)} {LO:List AV} {LI:List (As×Value)} {LU:List (Au×Value)} {T Mm gO Bs:Nat} {vL:Value} {qs:List AE} {rows:List (vD×MR)} {c:Be}
theorem Za(hS:SV w S vR vO vI vU vN LR LO LI LU c.names)(mO:LO.map Prod.fst=c.objs)(mI:LI.map Prod.fst=c.ifs)(mU:LU.map Prod.fst=c.uns)(hg:∃c,vO=.slice (some ⟨gO,0,none⟩) LO.length c)(hst:IF w T S Mm gO Bs LO vL qs rows)(hit:Gz w)(hns:∀x∈c.names,x.size<=100000)(hfs:∀typ fs,DU (LO.map Prod.fst) (LI.map Prod.fst) typ=some fs->fs≠[]/\∀f∈fs,f.name.size<=100000)
 {V Bq q whole:Nat} {vid:vD} {roles:List vD} {Q:Qy} {ps:List Nat} (hv:DM w V vid roles) (hq:EQ w Bq q Q ps) (hp:PO c rows roles vid Q.parts whole) {m:List Bool} (hm:Ms (Ec c rows roles vid Q.parts) whole m):MX w S vR vO vI vU vN LR LO LI LU c.names T Mm gO Bs V vL qs rows vid roles Bq ps whole m (Ec c rows roles vid Q.parts) where
 s:=hS
 g:=hg
 v:=hv
 t:=hst
 p:=hq.pt
 n:=hq.n
 sl:=hq.sl
 ks:=hp.ks
 ag:=hp.ag
 pl:=by have h1:=hq.l3;have h2:=hq.n;show Q.parts.length<=2000;omega
 eo:=mO.symm
 ei:=mI.symm
 eu:=mU.symm
 en:=rfl
 er:=rfl
 ew:=by rw[mO];rfl
 ok:=hm
 sz:=hp.sz
 it:=hit
 ns:=hns
 fs:=hfs
end
theorem YX{E:AJ}{root:MR}{whole:Nat}{s:Aj}(hsz:Ia E)(hr:Ei root)(hR:RB 0 0 s)(h0:0<=s.left):Ej (Fj E root whole s):=by
 have hG:=(Jz hsz 5001).g root [whole] s hr hR.p;have hL:=(Jz hsz 5001).l root [whole] s hr hR.p;have hP:=GK E 5001 root [whole] s;unfold Fj;generalize AR E 5001 root [whole] s=va at*;have h1:RB (0+2) (0+0) va.2:=hR.gr hG hP (by unfold LB at hL;omega);have h2:=h1.gr (Gr.settle 0 va.1 false va.2 h1.p) (PL.settle 0 va.1 false va.2) (by rw[LB.settle];exact h1.l);exact h2.room (by omega) (by omega)
section
variable {w:World} {S:Nat} {vR vO vI vU vN:Value} {LR:List (At×Value)} {LO:List AV} {LI:List (As×Value)} {LU:List (Au×Value)} {T Mm gO Bs:Nat} {vL:Value} {qs:List AE} {rows:List (vD×MR)} {c:Be}
theorem YZ(hS:SV w S vR vO vI vU vN LR LO LI LU c.names)(mR:LR.map Prod.fst=c.roles)(mO:LO.map Prod.fst=c.objs)(mI:LI.map Prod.fst=c.ifs)(mU:LU.map Prod.fst=c.uns)(hg:∃c,vO=.slice (some ⟨gO,0,none⟩) LO.length c)(hst:IF w T S Mm gO Bs LO vL qs rows)(hit:Gz w)(hns:∀x∈c.names,x.size<=100000)(hfs:∀typ fs,DU (LO.map Prod.fst) (LI.map Prod.fst) typ=some fs->fs≠[]/\∀f∈fs,f.name.size<=100000)(hqi:¬Ae (LO.map oN) bQ<0)
 (hnd:(LR.map rN).Nodup) (xC:∀x∈LR,∀y∈x.1.inc,y∈LR.map rN/\y.size<=4000) (hrz:∀y∈LR.map rN,y.size<=4000)
 (vG vid qt vt:vD) (b:Int) (h1:vG.size<=2000000) (h2:qt.size<=2000000) (h3:vt.size<=2000000)
 (hP:∀l,Eb (BD (Af qt)).2=true->(BD (Af qt)).1.ops.length=1->Kb (BD (Af qt)).1=true->Fl (FZ (Af vt)).1 (Hu (Cm (BD (Af qt)).1)) []=some l->In ⟨c.objs,c.ifs,c.uns,Fq c.roles vG⟩ (Ds l (Cm (BD (Af qt)).1)).parts (CE (BD (Af qt)).1)=true->PO c rows (Fq c.roles vG) vid (Ds l (Cm (BD (Af qt)).1)).parts (CE (BD (Af qt)).1)):
 Calls prog 12 #[.pointer (some ⟨T,0,none⟩),.agg #[.string vG,.string vid,.string qt,.string vt,.int .i64 b]] w fun e w'=>e=.returned (.string (My c rows vG vid qt vt b))/\vE w w':=by
 obtain⟨RES,vH⟩:∃RES,Hi (RES=My c rows vG vid qt vt b):=⟨_,Aa rfl⟩;rw[<-vH.o];unfold My at vH;have HPL:=Aa hP;have HQZ:=Aa (WY qt);have HV9:=Aa (sR vt);have HPIN:=Aa (fun(l:AL)=>WD (l:=l) (WX qt).1);have HQR:=Aa (fun(W:World)=>pF qt W (by unfold maxLen;omega));have HVR:=Aa (fun(W:World)=>sY vt W (by unfold maxLen;omega));have HVO:=Aa (fun(W:World) (hW:vE w W)=>sQ (hS.below hW) hnd xC hrz vG vid h1);rw[mR]at HVO;generalize Fq c.roles vG=roles at*;generalize FZ (Af vt)=VR at*;generalize BD (Af qt)=QR at*;obtain⟨given,gb⟩:=VR;obtain⟨Q,Qs⟩:=QR;simp only[]at vH HPL HQZ HV9 HQR HVR HPIN;generalize Eb Qs=wb at*;have HS:=Aa hS;have HST:=Aa hst;have HIT:=Aa hit;have HTB:=Aa hst.st.b;have lT:=Ab hst.st.b;have hbA:=bA (tM w.heap.size w) (.cells #[.string vG,.string vid,.string qt,.string vt,.int .i64 b] 26);have HNA:=Aa (tS w (.cells #[.string vG,.string vid,.string qt,.string vt,.int .i64 b] 26));have HBA:=Aa hbA;have hzA:w.heap.size<(w.alloc (.cells #[.string vG,.string vid,.string qt,.string vt,.int .i64 b] 26)).heap.size:=by simp
 clear hS hst hit hbA hP hnd xC hrz;go_enter func12,ntmps12;go_upto_region 1 with fail;generalize w.alloc (.cells #[.string vG,.string vid,.string qt,.string vt,.int .i64 b] 26)=W1 at*;have cA:=Ac HNA.o;go_wp2_with fail;refine(HQR.o W1).mono ?_;rintro _ w2 ⟨q,ps,rfl,hq2,b2⟩;have HQ2:=Aa hq2;have HB2:=Aa (bT HBA.o b2);have HN2:=Aa ((b2.block _ (Ab HNA.o)).trans HNA.o);have cA2:=Ac HN2.o;have lA2:=Ab HN2.o;have hz2:=b2.size;clear hq2 b2 HQR cA HNA;go_wp2_with fail;refine(HVR.o w2).mono ?_;rintro _ w3 ⟨Mv,nv,Dv,rfl,hov,hvm, -, -,b3⟩;have HQ3:=Aa (HQ2.o.below b3);have HB3:=Aa (bT HB2.o b3);have HN3:=Aa ((b3.block _ (Ab HN2.o)).trans HN2.o);have cA3:=Ac HN3.o;have lA3:=Ab HN3.o;have HOV:=Aa hov;have HVM:=Aa hvm;have hz3:=b3.size;clear hov hvm b3 HVR cA2 lA2 HN2 HQ2;cases wb
 ·have HE:=Aa (show RES=Ci Mf from by rw[vH.o,uC (.inl rfl)])
  unfold Mf at HE;go_wp2_with fail;refine(IX w3 _ (by decide)).mono ?_;rintro _ wz ⟨rfl,hwz⟩;have hwz:=hwz.symm;subst hwz;go_wp2_with fail;go_ret;rw[HE.o];exact⟨rfl,HB3.o⟩
 cases gb
 ·have HE:=Aa (show RES=Ci Mf from by rw[vH.o,uC (.inr rfl)])
  unfold Mf at HE;go_wp2_with fail;refine(IX w3 _ (by decide)).mono ?_;rintro _ wz ⟨rfl,hwz⟩;have hwz:=hwz.symm;subst hwz;go_wp2_with fail;go_ret;rw[HE.o];exact⟨rfl,HB3.o⟩
 have yZ:=Aa (vH.o.trans (uB (by simp)));clear vH;have HVO3:=Aa (HVO.o w3.drew (HB3.o.trans (tM _ _).drew));have HSS:=Aa (fun V' (hV:vE w3 V')=>uV hV (uV (Ac ((hV.block _ lA3).trans HN3.o)) (uV (Ac (((bT HB3.o hV).block _ lT).trans HTB.o)) (uV (tV lA3 hV.size) (tV lT (bT HB3.o hV).size)))));by_cases hrl:roles=[]
 ·have HE:=Aa (show RES=Ci Pr from by rw[yZ.o,uC hrl])
  unfold Pr at HE;rw[uC hrl]at HVO3;clear hrl;go_wp2_with fail;go_region_held3 (fun V'=>vE w3 V'/\(∀j,V'.cell? ⟨w.heap.size,j,none⟩=(#[.string vG,.string vid,.string qt,.string vt,.int .i64 b]:Array Value)[j]?)/\(∀j,V'.cell? ⟨T,j,none⟩=(#[vL,.pointer (some ⟨S,0,none⟩),.map (some Mm)]:Array Value)[j]?)/\w.heap.size<V'.heap.size/\T<V'.heap.size)
   (first|exact HSS.o _ (tM _ _).drew|exact HSS.o _ ((tM _ _).drew.trans b4))
   (first|(go_at_call 20;refine HVO3.o.mono ?_;rintro _ w4 ⟨qv,rfl,b4, -⟩))
  all_goals(
   have HB4:=Aa (HB3.o.trans (((tM w3.heap.size w3).drew.trans b4).mono HB3.o.size));clear b4;go_wp2_with fail;refine(IX w4 _ (by decide)).mono ?_;rintro _ wz ⟨rfl,hwz⟩;have hwz:=hwz.symm;subst hwz;go_wp2_with fail;go_ret;rw[HE.o];exact⟨rfl,HB4.o⟩)
 have yY:=Aa (yZ.o.trans (uB hrl));rw[uB hrl]at HVO3;have HRL:=Aa hrl;clear yZ hrl;go_wp2_with fail;go_cut [9,10] (fun v9 v10 wc=>∃V,v9=.pointer (some ⟨V,0,none⟩)/\v10=.int .i64 0/\vE w3 wc/\IG wc V vid roles)
 case first=>
  go_region_held3 (fun V'=>vE w3 V'/\(∀j,V'.cell? ⟨w.heap.size,j,none⟩=(#[.string vG,.string vid,.string qt,.string vt,.int .i64 b]:Array Value)[j]?)/\(∀j,V'.cell? ⟨T,j,none⟩=(#[vL,.pointer (some ⟨S,0,none⟩),.map (some Mm)]:Array Value)[j]?)/\w.heap.size<V'.heap.size/\T<V'.heap.size)
   (first|exact HSS.o _ (tM _ _).drew|exact HSS.o _ ((tM _ _).drew.trans b4))
   (first|(go_at_call 20;refine HVO3.o.mono ?_;rintro _ w4 ⟨qv,rfl,b4,hvw⟩;obtain⟨V,rfl,hvt⟩:=hvw HRL.o))
  all_goals(
   have HB4:=Aa (show vE w3 w4 from(tM w3.heap.size w3).drew.trans b4);have HVT:=Aa hvt;clear b4 hvt hvw
   (try go_wp2_with fail)
   go_meet;exact⟨V,rfl,rfl,HB4.o,HVT.o⟩)
 case rest=>
 obtain⟨V,rfl,rfl,hb4,hvt⟩:=hcut;have HQ4:=Aa (HQ3.o.below hb4);have HB4:=Aa (bT HB3.o hb4);have HN4:=Aa ((hb4.block _ (Ab HN3.o)).trans HN3.o);have HOV4:=Aa (HOV.o.below hb4);have HVT:=Aa hvt;have hz4:=hb4.size;obtain⟨vO',vF',vP',LO',q1,q2,q3,q4,q5,q6⟩:=HQ4.o.ex;obtain⟨aO,cO,rfl⟩:=An q4;have cq:=Ac q1;have lq:=Ab q1;have hLO:LO'.length=Q.ops.length:=by rw[<-q3,uP]
 clear hvt hb4 HSS HVO3 HQ3 HOV HN3 cA3 lA3 q1 q2 q3 q4 q5 q6;generalize hon:LO'.length=on at*;have HON:=Aa hLO;clear hLO hon;by_cases hol:Q.ops.length=1
 rotate_left
 ·have HE:=Aa (show RES=Ci Pq from by rw[yY.o,uC hol])
  unfold Pq at HE;have hne:((on:Int)!=1)=true:=by have:=HON.o;simp;omega
  clear hol;go_wp2_with fail;refine(IX wc _ (by decide)).mono ?_;rintro _ wz ⟨rfl,hwz⟩;have hwz:=hwz.symm;subst hwz;go_wp2_with fail;go_ret;rw[HE.o];exact⟨rfl,HB4.o⟩
 have yX:=Aa (yY.o.trans (uB (by rw[hol];simp)));have hon1:on=1:=by rw[HON.o,hol]
 subst hon1;have HOL:=Aa hol;clear yY hol;have hB4:W1.heap.size<=wc.heap.size:=by omega
 have HLK:=Aa (iY HQ4.o HQZ.o.nm hB4);have HPL2:=Aa (fun l=>HPL.o l trivial HOL.o);generalize hlp:Kb Q=lp at*;have HLP:=Aa hlp;clear hlp HPL;have hzw:w.heap.size<=W1.heap.size:=by omega
 cases lp
 ·have HE:=Aa (show RES=Ci Pp from by rw[yX.o,uC rfl])
  unfold Pp at HE;go_wp2_with fail;refine HLK.o.mono ?_;rintro _ w5 ⟨rfl,f5, -⟩;have HB5:=Aa (HB4.o.trans (f5.below.mono hzw));clear f5;go_wp2_with fail;refine(IX w5 _ (by decide)).mono ?_;rintro _ wz ⟨rfl,hwz⟩;have hwz:=hwz.symm;subst hwz;go_wp2_with fail;go_ret;rw[HE.o];exact⟨rfl,HB5.o⟩
 have yW:=Aa (yX.o.trans (uB (by simp)));clear yX;obtain⟨vs,hops⟩:∃vs,Q.ops=[(vs,CE Q)]:=by
  have:=HOL.o;unfold CE
  match ho:Q.ops with
  |[]=>rw[ho]at this;cases this
  |[o]=>exact⟨o.1,rfl⟩
  |o::p::r=>rw[ho]at this;simp at this
 have HOPS:=Aa hops;go_wp2_with fail;refine HLK.o.mono ?_;rintro _ w5 ⟨rfl,f5,hq5⟩;have HQ5:=Aa (hq5 trivial);have HB5:=Aa (HB4.o.trans (f5.below.mono hzw));have HN5:=Aa (f5.at HN4.o (by decide));have HOV5:=Aa (HOV4.o.ft f5);have HVT5:=Aa (HVT.o.ft f5 (by decide) (by decide));have hz5:=f5.size;clear f5 hq5 HLK HQ4 HN4 HOV4 HVT cq lq hops;have HBI:=Aa (YE HQ5.o (by show Q.ops≠[];rw[HOPS.o];simp) HQZ.o.link.bd HOV5.o HVM.o HV9.o (by omega));have HPL3:=Aa (fun l=>HPL2.o l trivial);generalize Fl given (Hu (Cm Q)) []=bo at*;clear HPL2;cases bo with
 |none=>
  have HE:=Aa (show RES=Ci NH from yW.o);unfold NH at HE;go_wp2_with fail;refine HBI.o.mono ?_;rintro _ w6 ⟨rfl,f6, -⟩;have HB6:=Aa (HB5.o.trans (f6.below.mono hzw));clear f6;go_wp2_with fail;refine(IX w6 _ (by decide)).mono ?_;rintro _ wz ⟨rfl,hwz⟩;have hwz:=hwz.symm;subst hwz;go_wp2_with fail;go_ret;rw[HE.o];exact⟨rfl,HB6.o⟩
 |some l=>
  have yV:=Aa (show RES=if In ⟨c.objs,c.ifs,c.uns,roles⟩ (Ds l (Cm Q)).parts (CE Q)=false then Ci NG else if b<0\/5000<b then Ci GV else Jx (Ec c rows roles vid (Ds l (Cm Q)).parts) (Co c.objs rows) (CE Q) b from yW.o);have HPL4:=Aa (HPL3.o l rfl);have HPI:=Aa (show BM (Ds l (Cm Q)).parts from by rw[UP];exact HPIN.o l);clear yW HPL3;go_wp2_with fail;refine HBI.o.mono ?_;rintro _ w6 ⟨rfl,f6,hq6⟩;have HQ6:=Aa (hq6 l rfl);have HB6:=Aa (HB5.o.trans (f6.below.mono hzw));have HN6:=Aa (f6.at HN5.o (by decide));have HVT6:=Aa (HVT5.o.ft f6 (by decide) (by decide));have hz6:=f6.size;clear f6 hq6 HBI HQ5 HN5 HOV5 HVT5;have hT6:=(HB6.o.block _ lT).trans HTB.o;have cT6:=Ac hT6;have lT6:=Ab hT6;have HGO:=Aa (YH (HS.o.below HB6.o) HVT6.o.at HQ6.o HPI.o (show(Ds l (Cm Q)).ops=[(vs,CE Q)]from HOPS.o));rw[mO,mI,mU]at HGO;generalize hgp:In ⟨c.objs,c.ifs,c.uns,roles⟩ (Ds l (Cm Q)).parts (CE Q)=gp at*;clear hgp hT6;cases gp
  ·have HE:=Aa (show RES=Ci NG from by rw[yV.o,uC rfl])
   unfold NG at HE;go_wp2_with fail;refine HGO.o.mono ?_;rintro _ w7 ⟨rfl,b7⟩;have HB7:=Aa (bT HB6.o b7);clear b7;go_wp2_with fail;refine(IX w7 _ (by decide)).mono ?_;rintro _ wz ⟨rfl,hwz⟩;have hwz:=hwz.symm;subst hwz;go_wp2_with fail;go_ret;rw[HE.o];exact⟨rfl,HB7.o⟩
  have xY:=Aa (yV.o.trans (uB (by simp)));clear yV;go_wp2_with fail;refine HGO.o.mono ?_;rintro _ w7 ⟨rfl,b7⟩;have HB7:=Aa (bT HB6.o b7);have HQ7:=Aa (HQ6.o.below b7);have HN7:=Aa ((b7.block _ (Ab HN6.o)).trans HN6.o);have HVT7:=Aa (HVT6.o.below b7);have c7:=Ac HN7.o;have l7:=Ab HN7.o;clear b7 HGO HQ6 HN6 HVT6 cT6 lT6;by_cases hb0:b<0
  ·have HE:=Aa (show RES=Ci GV from by rw[xY.o,uC (.inl hb0)])
   unfold GV at HE;have hbd:decide (b<0)=true:=uH hb0;go_wp2_with fail;refine(IX w7 _ (by decide)).mono ?_;rintro _ wz ⟨rfl,hwz⟩;have hwz:=hwz.symm;subst hwz;go_wp2_with fail;go_ret;rw[HE.o];exact⟨rfl,HB7.o⟩
  by_cases hb1:5000<b
  ·have HE:=Aa (show RES=Ci GV from by rw[xY.o,uC (.inr hb1)])
   unfold GV at HE;have hbd:decide (b<0)=false:=tT hb0;have hbd1:decide ((5000:Int)<b)=true:=uH hb1;go_wp2_with fail;refine(IX w7 _ (by decide)).mono ?_;rintro _ wz ⟨rfl,hwz⟩;have hwz:=hwz.symm;subst hwz;go_wp2_with fail;go_ret;rw[HE.o];exact⟨rfl,HB7.o⟩
  have HRES8:=Aa (show RES=Jx (Ec c rows roles vid (Ds l (Cm Q)).parts) (Co c.objs rows) (CE Q) b from xY.o.trans (uB (by omega)));have hbd:decide (b<0)=false:=tT hb0;have hbd1:decide ((5000:Int)<b)=false:=tT hb1;clear xY;have hpa:=HPL4.o trivial;obtain⟨m,hm1,hm2⟩:=hpa.ok;have HMX:=Aa (Za (HS.o.below HB7.o) mO mI mU hg (HST.o.below HB7.o) (HIT.o.below HB7.o) hns hfs HVT7.o.at HQ7.o hpa hm1);obtain⟨vO',vF',vP',LO',q1,q2,q3,q4,q5,q6⟩:=HQ7.o.ex;obtain⟨y,hLO⟩:∃y,LO'=[y]:=by
   rw[show(Ds l (Cm Q)).ops=[(vs,CE Q)]from HOPS.o]at q3;cases LO' with
   |nil=>cases q3
   |cons y r=>cases r with
    |nil=>exact⟨y,rfl⟩
    |cons z r=>simp at q3
  subst hLO;have hy:y.1=(vs,CE Q):=by rw[show(Ds l (Cm Q)).ops=[(vs,CE Q)]from HOPS.o]at q3;simpa using q3
  have hwl:CE Q<ps.length:=by have:=(q5 y uX).p;rw[hy]at this;exact this
  obtain⟨kw,hkw⟩:∃kw,ps[CE Q]?=some kw:=⟨_,tN hwl⟩;obtain⟨gP,capP,hvO,hcO⟩:=Cn q4 (fun _=>rfl) 0 y rfl;subst hvO;have cO1:w7.cell? ⟨gP,1,none⟩=some (.pointer (some ⟨kw,0,none⟩)):=by have:=hcO 1 _ rfl;simpa [oL,hy,AM,hkw]using this
  have lO:=tR w7 _ cO1;obtain⟨aP,cP,rfl⟩:=An q2;have cq:=Ac q1;have lq:=Ab q1;have HCQ:=Aa q1;have hRB:RB 0 0 ⟨b,[],[],[]⟩:=⟨by show 0+20000000*b.toNat<=_;omega,by show 0+60000000*b.toNat<=_;omega,by unfold PB;show 0+5000*b.toNat<=_;omega,by show -100000000<=b;omega,by show b<=5000;omega⟩;have HRM:=Aa (YX (whole:=CE Q) hpa.sz hpa.rs hRB (by show 0<=b;omega));have vX:=Aa (fun(X:World) (hX:vE w7 X) (M:Nat) (hM:MK X w7.heap.size M T V ps.length ⟨b,[],[],[]⟩)=>jX HMX.o (by rw[mO];exact hpa.ro) (by rw[mO];exact hpa.rs) (by rw[mO];exact hm2) (by omega) hX hM hRB (by show 0<=b;omega) hkw);rw[mO]at vX;have HRES9:=Aa (HRES8.o.trans (Jx.eq_1 _ _ _ _));generalize Fj (Ec c rows roles vid (Ds l (Cm Q)).parts) (Co c.objs rows) (CE Q) ⟨b,[],[],[]⟩=s9 at*;unfold AQ at vX;have hB7w:=HB7.o.size;clear HRES8 hpa hm1 hm2 HMX q1 q2 q3 q4 q5 q6 hy hcO hRB HPL4 hkw;generalize ps.length=pn at*;go_wp2_with fail;go_region;all_goals(
   have hbM:=(bA (tM w7.heap.size w7) (.cells #[.pointer (some ⟨T,0,none⟩),.pointer (some ⟨V,0,none⟩),.int .i64 pn,.int .i64 b,.slice none 0 0,.slice none 0 0,.slice none 0 0] 86)).drew;have HM8:=Aa (show MK (w7.alloc (.cells #[.pointer (some ⟨T,0,none⟩),.pointer (some ⟨V,0,none⟩),.int .i64 pn,.int .i64 b,.slice none 0 0,.slice none 0 0,.slice none 0 0] 86)).drew w7.heap.size w7.heap.size T V pn ⟨b,[],[],[]⟩from(show MK _ _ _ _ _ _ _ from⟨.slice none 0 0,.slice none 0 0,.slice none 0 0,⟨tS w7 _,uA _ _ _ _,uA _ _ _ _,uA _ _ _ _,.inl rfl,.inl rfl,.inl rfl,tL _⟩⟩).below (tM _ _).drew);have HB8:=Aa hbM;have cq8:=Ac ((hbM.block _ lq).trans HCQ.o);have lq8:=tV lq hbM.size;have cO8:=Ah hbM cO1;have lO8:=tV lO hbM.size;clear hbM cq lq cO1 lO c7 l7;generalize (w7.alloc (.cells #[.pointer (some ⟨T,0,none⟩),.pointer (some ⟨V,0,none⟩),.int .i64 pn,.int .i64 b,.slice none 0 0,.slice none 0 0,.slice none 0 0] 86)).drew=W8 at*;have HA8:=Aa (vX.o W8 HB8.o w7.heap.size HM8.o);clear vX HM8;go_wp2_with fail;refine HA8.o.mono ?_;rintro _ w9 ⟨rfl,h9,f9⟩;have HB9:=Aa (show vE w w9 from HB7.o.trans ((HB8.o.trans f9.below).mono hB7w));have HAN:=Aa (jY h9 HRM.o);obtain⟨vd,ve,vp,hx9⟩:=h9;have c9:=Ac hx9.b;have l9:=Ab hx9.b;clear f9 hx9 HA8 cq8 lq8 cO8 lO8;by_cases hneg:s9.left<0
   ·have HE:=Aa (show RES=Ci GV from by rw[HRES9.o,uC hneg])
    unfold GV at HE;have hd9:decide (s9.left<0)=true:=uH hneg;go_wp2_with fail;refine(IX w9 _ (by decide)).mono ?_;rintro _ wz ⟨rfl,hwz⟩;have hwz:=hwz.symm;subst hwz;go_wp2_with fail;go_ret;rw[HE.o];exact⟨rfl,HB9.o⟩
   ·have HE:=Aa (show RES=Lp s9 from by rw[HRES9.o,uB hneg])
    have hd9:decide (s9.left<0)=false:=tT hneg;go_wp2_with fail;refine HAN.o.mono ?_;rintro _ wz ⟨rfl,hwz⟩;have hwz:=hwz.symm;subst hwz;go_wp2_with fail;go_ret;rw[HE.o];exact⟨rfl,HB9.o⟩)
end
end Go.Proofs.YtadneapobijejaaGreatDoor
