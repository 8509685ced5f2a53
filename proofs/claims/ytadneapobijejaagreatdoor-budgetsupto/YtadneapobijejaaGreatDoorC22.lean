import Derived.Test.YtadneapobijejaaGreatDoorC21
namespace Go.Proofs.YtadneapobijejaaGreatDoor
set_option maxHeartbeats 20000000
set_option maxRecDepth 100000
open Go.RowKit Tryz
attribute [local go_sem ↓] Go.wp_at_zero Go.wp_at_succ
def JU(R:vD->vD->Bool)(wZ:List Al)(ns:List vD)(n t:vD):Bool:=match wZ[(Ae (wZ.map Al.name) n).toNat]? with
 |some f=>decide (0<=Ae (wZ.map Al.name) n)&&(!decide (f.arg=CI)&&(decide (Ae ns n<0)&&(JA t&&CW R f.ty (Dk t))))
 |none=>false
theorem info250:(prog.info? 250).map (fun i=>(i.zero,i.size,i.bytes))=some (some (.agg #[.pointer none,.string ⟨#[]⟩,.int .i64 0,.int .i64 0,.string ⟨#[]⟩,.slice none 0 0]),6,80):=by kernel_rfl
section
variable {w0:World} {S:Nat} {vR vO vI vU vN:Value} {LR:List (At×Value)} {LO:List AV} {LI:List (As×Value)} {LU:List (Au×Value)} {names:List vD} {T M gO B1 gR cR:Nat} {rows:List AE}
theorem dF(h:SV w0 S vR vO vI vU vN LR LO LI LU names)(hg:∃c,vO=.slice (some ⟨gO,0,none⟩) LO.length c)(W:World)(hB:vE w0 W)(hF:FS W T S M gO w0.heap.size B1 gR cR rows)(hB1:w0.heap.size<=B1)(hk:∀r'∈rows,r'.k<LO.length)(i rk:Nat)(rid:vD)(aV:Option Addr)(cV:Nat)(rcs:List BR)(x:AV)(hi:rows[i]?=some ⟨rk,rid,.slice aV rcs.length cV,rcs⟩)(hx:LO[rk]?=some x)(hcl:rcs.length<=999999)(n t:vD)(ht:t.size<=2000000)(hwt:Fa 1603 (Dk t)):
 Calls prog 62 #[.pointer (some ⟨T,0,none⟩),.pointer (some ⟨gR,i*3,none⟩),.agg #[.string n,.string t]] W fun e w'=>e=.returned (.bool (JU (DH (LO.map Prod.fst) (LI.map iN) (LU.map uN) (LU.map Prod.fst) rows) x.1.fields (rcs.map Cv) n t))/\vE w0 w'/\(JU (DH (LO.map Prod.fst) (LI.map iN) (LU.map uN) (LU.map Prod.fst) rows) x.1.fields (rcs.map Cv) n t=true->∃v' c,x.1.fields[(Ae (x.1.fields.map Al.name) n).toNat]?=some c.f/\c.f.name=n/\c.t=t/\FS w' T S M gO w0.heap.size B1 gR cR (rows.set i ⟨rk,rid,v',rcs++[c]⟩)):=by
 obtain⟨iC,hiC,zC0,zC1,zC2⟩:=info_parts info250;obtain⟨g1,wK,hv1,r0,_,r2⟩:=hF.s.at hi;have eg:=(Addr.mk.inj (tY (Value.slice.inj hv1).1)).1;subst eg;obtain⟨g2,cap2,hv2,hc2⟩:=h.o.cell (fun _=>rfl) rk x hx;obtain⟨c0,hv0⟩:=id hg;rw[hv0]at hv2;have eg:=(Addr.mk.inj (tY (Value.slice.inj hv2).1)).1;subst eg;have o1:w0.cell? ⟨gO,rk*4+1,none⟩=some x.2.1:=hc2 1 _ rfl;obtain⟨hfl,hfln,_,_,_⟩:=h.o.ok x (tO hx);obtain⟨LF,eLF,hrow⟩:=hfl.row;have hnm:LF.map fN=x.1.fields.map Al.name:=Ke LF _ eLF;have hLl:LF.length=x.1.fields.length:=by rw[<-eLF,uP]
 have hro:CT w0 x.2.1 6 (x.1.fields.map Al.name):=by rw[<-hnm];exact hrow.rowed fN (fun _=>rfl) (fun _=>rfl)
 have HFO:=Aa (fun X (hX:vE W X)=>Oj X gO (rk*4) x.2.1 n (x.1.fields.map Al.name) (Ah (bT hB hX) o1) (hro.below (bT hB hX)) (by simp;omega));have HF:=Aa hF;have HB:=Aa hB;have HH:=Aa h;have HPC:=Aa (hF.cells hi);have hlg:gR<W.heap.size:=tV hF.g hF.b;have hB1W:=hF.b;have HQ:=Aa (JU.eq_1 (DH (LO.map Prod.fst) (LI.map iN) (LU.map uN) (LU.map Prod.fst) rows) x.1.fields (rcs.map Cv) n t);generalize hR:DH (LO.map Prod.fst) (LI.map iN) (LU.map uN) (LU.map Prod.fst) rows=R at*;have HRC:=Aa (show∀X,vE W X->PT X T R from fun X hX Y hY id c hid=>by
  rw[<-hR];exact jZ (h.below (bT (bT hB hX) hY)) hg ((hF.below (bT hX hY)).s) hk id c hid)
 have HIX:=Aa (show(Ae (x.1.fields.map Al.name) n<0->AC x.2.1 6 (Ae (x.1.fields.map Al.name) n)=.pointer none)/\(¬Ae (x.1.fields.map Al.name) n<0->∃gF j f u,AC x.2.1 6 (Ae (x.1.fields.map Al.name) n)=.pointer (some ⟨gF,j*6,none⟩)/\x.1.fields[(Ae (x.1.fields.map Al.name) n).toNat]?=some f/\f.name=n/\gF<w0.heap.size/\Ce w0 gF (j*6) f u/\Bu w0 S u f.ty)from⟨fun e=>by unfold AC;rw[uC e],fun e=>by
  obtain⟨j,y,hj,hy,hyn,_⟩:=Cl fN LF n (by rw[hnm];exact e);obtain⟨gF,capF,hvF,hfa,hta⟩:=hrow.fldAt j y hy;rw[hnm]at hj;refine⟨gF,j,y.1,y.2,by rw[hj,hvF];unfold AC;rw[uB (by omega)];rfl,by rw[hj,uO,<-eLF,uD,hy];rfl,hyn,tR w0 ⟨gF,j*6,none⟩ hfa.c0,hfa,hta⟩⟩)
 have hil:i<rows.length:=(tP.1 hi).1;have hrl:=hF.s.l;have HI:=Aa hi;generalize JU R x.1.fields (rcs.map Cv) n t=q at*;generalize AC x.2.1 6 (Ae (x.1.fields.map Al.name) n)=pf at*;generalize Ae (x.1.fields.map Al.name) n=kf at*;clear h hg hB hF hR hv0 hv1 hv2 hc2 o1 hfl hrow hro hx hnm hi hk;go_enter func62,ntmps62;go_upto_region 1 with fail;have hN:=tS W (.cells #[.string n,.string t] 53);have hb:=bA (tM W.heap.size W) (.cells #[.string n,.string t] 53);generalize W.alloc (.cells #[.string n,.string t] 53)=W1 at*;have cN:=Ac hN;have hlN:=Ab hN;have HB1:=Aa hb;have HS:=Aa (fun V (hV:vE W1 V)=>uV hV (uV (fun k=>(hV.cell (p:=⟨W.heap.size,k,none⟩) hlN).trans (cN k)) (Ah hV (Ah hb r0))));clear hN hb cN r0;go_cut [7] (fun v7 wc=>v7=pf/\vE W1 wc)
 case first=>
  go_region_held3 (fun V=>vE W1 V/\(∀k,V.cell? ⟨W.heap.size,k,none⟩=(#[.string n,.string t]:Array Value)[k]?)/\V.cell? ⟨gR,i*3,none⟩=some (.pointer (some ⟨gO,rk*4,none⟩)))
   (first|exact HS.o _ (tM _ _).drew|exact HS.o _ (bT bh b2))
   (first|(go_at_call 108;obtain⟨bh, -⟩:= ‹vE W1 _/\_›;refine(HFO.o _ (bT HB1.o bh)).mono ?_;rintro _ w2 ⟨rfl,b2⟩))
  all_goals(obtain⟨bh, -⟩:= ‹vE W1 _/\_›;(try go_wp2_with fail);go_meet;exact⟨rfl,bh⟩)
 case rest=>
  obtain⟨rfl,hb2⟩:=hcut;obtain⟨_,cN,_⟩:=HS.o _ hb2;have HB2:=Aa (bT HB1.o hb2);have hlNc:W.heap.size<wc.heap.size:=tV hlN hb2.size;clear hb2 HS HFO;have RF:=Aa (show∀X,vE W X->q=false->vE w0 X/\(q=true->∃v' c,x.1.fields[kf.toNat]?=some c.f/\c.f.name=n/\c.t=t/\FS X T S M gO w0.heap.size B1 gR cR (rows.set i ⟨rk,rid,v',rcs++[c]⟩))from fun X hX e=>⟨bT HB.o hX,fun e'=>by rw[e]at e';cases e'⟩);by_cases hkf:kf<0
  ·have e:=HIX.o.1 hkf
   subst e;have HF0:=Aa (show q=false from by rw[HQ.o,tT (by omega)];split<;>rfl);go_wp2_with fail;go_ret;exact⟨Ak HF0.o.symm,RF.o _ HB2.o HF0.o⟩
  obtain⟨gF,j,f,u,e,hfk,hfn,hgF,hfa,hta⟩:=HIX.o.2 hkf;subst e;rw[hfk,uH (show 0<=kf by omega)]at HQ;have HQ1:=Aa (show q=(!decide (f.arg=CI)&&(decide (Ae (rcs.map Cv) n<0)&&(JA t&&CW R f.ty (Dk t))))from HQ.o);clear HQ;have HTI:=Aa (fun X (hX:vE W X)=>Sk (w:=X) (hfa.below' (fun k=>(bT HB.o hX).cell (p:=⟨gF,k,none⟩) hgF)));have HFA:=Aa hfa;have HTA:=Aa hta;have HFK:=Aa (uV hfk hfn);clear HIX hfa hta hfk hfn;cases ea:decide (f.arg=CI)
  rotate_left
  ·rw[ea]at HTI HQ1
   have HF0:=Aa (show q=false from HQ1.o);clear ea;go_wp2_with fail;refine(HTI.o _ HB2.o).mono ?_;rintro _ w' ⟨rfl,hw'⟩;have hw':=hw'.symm;subst hw';go_wp2_with fail;go_ret;exact⟨Ak HF0.o.symm,RF.o _ HB2.o HF0.o⟩
  rw[ea]at HTI HQ1;have HQ2:=Aa (show q=(decide (Ae (rcs.map Cv) n<0)&&(JA t&&CW R f.ty (Dk t)))from HQ1.o);clear HQ1;have HPL:=Aa (fun X (hX:vE W X)=>WF X gR (i*3) (.slice aV rcs.length cV) n rcs (Ah hX r2) (HPC.o.below hX) (by omega));clear ea HPC;by_cases hp:Ae (rcs.map Cv) n<0
  rotate_left
  ·have HF0:=Aa (show q=false from by rw[HQ2.o,tT hp];rfl)
   generalize Ae (rcs.map Cv) n=pl at*;have hp0:decide ((0:Int)<=pl)=true:=by simp;omega
   go_wp2_with fail;refine(HTI.o _ HB2.o).mono ?_;rintro _ w' ⟨rfl,hw'⟩;have hw':=hw'.symm;subst hw';go_wp2_with fail;refine(HPL.o _ HB2.o).mono ?_;rintro _ w2 ⟨rfl,b2⟩;go_wp2_with fail;go_ret;exact⟨Ak HF0.o.symm,RF.o _ (bT HB2.o b2) HF0.o⟩
  rw[uH hp]at HQ2;have HQ3:=Aa (show q=(JA t&&CW R f.ty (Dk t))from HQ2.o);clear HQ2;generalize Ae (rcs.map Cv) n=pl at*;have hp0:decide ((0:Int)<=pl)=false:=by simp;omega
  have HRC2:=Aa (fun X=>pL t X (by unfold maxLen;omega));clear hp;have HTY:=Aa HTA.o.ptr;obtain⟨ku,rfl⟩:=HTA.o.ptr;go_wp2_with fail;refine(HTI.o _ HB2.o).mono ?_;rintro _ w' ⟨rfl,hw'⟩;have hw':=hw'.symm;subst hw';go_wp2_with fail;refine(HPL.o _ HB2.o).mono ?_;rintro _ w2 ⟨rfl,b2⟩;have cN2:=fun k=>(b2.cell (p:=⟨W.heap.size,k,none⟩) hlNc).trans (cN k);have hlN2:=tV hlNc b2.size;have HB3:=Aa (bT HB2.o b2);clear cN b2 HPL HTI;go_wp2_with fail;refine(HRC2.o _).mono ?_;rintro _ w3 ⟨fv,rfl,b3,hv3⟩;unfold Ck;have cN3:=fun k=>(b3.cell (p:=⟨W.heap.size,k,none⟩) hlN2).trans (cN2 k);have xB:=tV hlN2 b3.size;have hs23:=HB3.o.size;have hs3:=b3.size;have HV3:=Aa hv3;have HB4:=Aa (bT HB3.o b3);clear cN2 b3 hv3 HRC2;generalize JA t=ok at*;cases ok
  ·have HF0:=Aa (show q=false from HQ3.o)
   go_wp2_with fail;go_quiet (fail);go_wp2_with fail;go_ret;exact⟨Ak HF0.o.symm,RF.o _ (below_drewN (bA HB4.o _) _) HF0.o⟩
  have HQ4:=Aa (show q=CW R f.ty (Dk t)from HQ3.o);clear HQ3;have HLC:=Aa (HV3.o rfl).2;have hvv:=(HV3.o rfl).1;go_upto_region 5 with fail;have hN4:=tS w3 (.cells #[.int .i64 fv.sh,.int .i64 fv.n,.string fv.s,.slice fv.la fv.ln fv.lc] 238);have hb4:=bA (tM w3.heap.size w3) (.cells #[.int .i64 fv.sh,.int .i64 fv.n,.string fv.s,.slice fv.la fv.ln fv.lc] 238);generalize w3.alloc (.cells #[.int .i64 fv.sh,.int .i64 fv.n,.string fv.s,.slice fv.la fv.ln fv.lc] 238)=W4 at*;have HB5:=Aa (bT HB4.o hb4);have hl4:=Ab hN4;have c4:=Ac hN4;have HV4:=Aa (hvv.frame (w':=W4) (B':=fun g=>w2.heap.size<=g/\g<w3.heap.size) (fun g hg o=>hb4.cell (p:=⟨g,o,none⟩) hg.2) (fun g hg=>hg));have cN4:=fun k=>(hb4.cell (p:=⟨W.heap.size,k,none⟩) xB).trans (cN3 k);have yA:=tV xB hb4.size;have hs4:=hb4.size;have f5:=(bT HB.o HB5.o).cell (p:=⟨gF,j*6+5,none⟩) hgF;have HFT:=Aa (fun X (hX:vE W4 X)=>nR (HRC.o W4 HB5.o) f.ty X (.pointer (some ⟨ku,0,none⟩)) fv (Dk t) 1603 1603 S hX (HTA.o.stays (Ao.of_below (bT (bT HB.o HB5.o) hX))) (HV4.o.frame (fun g hg o=>hX.cell (p:=⟨g,o,none⟩) (tV hg.2 hs4)) (fun g hg=>tV hg.2 (tQ hs4 hX.size))) hwt);unfold Ck at HFT;have HS:=Aa (fun V (hV:vE W4 V)=>uV hV (uV (fun k=>(hV.cell (p:=⟨w3.heap.size,k,none⟩) hl4).trans (c4 k)) (Ah hV (f5.trans HFA.o.c5))));generalize CW R f.ty (Dk t)=qf at*;clear hN4 hb4 hvv HV3 cN3 c4 f5;go_cut [49] (fun v49 wd=>v49=.bool (!qf)/\vE W4 wd)
  case first=>
   go_region_held3 (fun V=>vE W4 V/\(∀k,V.cell? ⟨w3.heap.size,k,none⟩=(#[.int .i64 fv.sh,.int .i64 fv.n,.string fv.s,.slice fv.la fv.ln fv.lc]:Array Value)[k]?)/\V.cell? ⟨gF,j*6+5,none⟩=some (.pointer (some ⟨ku,0,none⟩)))
    (first|exact HS.o _ (tM _ _).drew|exact HS.o _ (bT bh b2))
    (first|(go_at_call 112;obtain⟨bh, -⟩:= ‹vE W4 _/\_›;refine(HFT.o _ bh).mono ?_;rintro _ w5 ⟨rfl,b2⟩))
   all_goals(obtain⟨bh, -⟩:= ‹vE W4 _/\_›;(try go_wp2_with fail);go_meet;exact⟨rfl,bh⟩)
  case rest=>
   obtain⟨rfl,hb5⟩:=hcut;obtain⟨_,c5,_⟩:=HS.o _ hb5;have HB6:=Aa (bT HB5.o hb5);cases qf
   ·have HF0:=Aa (show q=false from HQ4.o)
    go_wp2_with fail;go_ret;exact⟨Ak HF0.o.symm,RF.o _ HB6.o HF0.o⟩
   ·have HTR:=Aa (show q=true from HQ4.o)
    have cN5:=fun k=>(hb5.cell (p:=⟨W.heap.size,k,none⟩) yA).trans (cN4 k);have hFd:=HF.o.below HB6.o;have HFD:=Aa hFd;obtain⟨gq,cq,hvq,_,_,q2⟩:=hFd.s.at HI.o;have eq:=(Addr.mk.inj (tY (Value.slice.inj hvq).1)).1;subst eq;have HOC:=Aa (hFd.c i _ HI.o);have HV5:=Aa (HV4.o.frame (w':=wc) (B':=fun g=>w2.heap.size<=g/\g<w3.heap.size) (fun g hg o=>hb5.cell (p:=⟨g,o,none⟩) (tV hg.2 hs4)) (fun g hg=>hg));have hs5:=hb5.size;have hwc:W.heap.size<=wc.heap.size:=HB6.o.size;have hl5:w3.heap.size<wc.heap.size:=tV hl4 hs5;have hlN5:W.heap.size<wc.heap.size:=tV yA hs5;obtain⟨cur,hcur⟩:∃cur,wc.heap[gR]?=some (.cells cur 134 (0,0)):=by
     rcases hFd.s.r.2 with⟨y,_⟩|⟨g,cap,cur,hv,_,hh,_⟩
     ·cases y
     ·have e1:=(Addr.mk.inj (tY (Value.slice.inj hv).1)).1
      rw[<-e1]at hh;exact⟨cur,hh⟩
    have HCU:=Aa hcur;have fR:=Am hcur (i*3+2);have hlR:gR<wc.heap.size:=Ab hcur;have hgR1:=hFd.g;have hne:Option.some gR≠(Value.slice aV rcs.length cV).ownBlock:=fun e=>by have:=LV HOC.o gR e.symm;omega
    have hcsl:rcs.length<=999999:=hcl;clear hb5 HS hFd hcur HFT HRC HV4 cN4 hvq;go_wp2_with fail;go_region_law (first
     |(refine step_append_lies _ (by rfl) _ _ _ (by rfl) B1 250 iC _ 6 80 underlying132 hiC zC0 zC1 zC2 rfl (by decide) _ _ _ (by rfl) (hO6.alloc _) ⟨w6.heap.size,0,none⟩ 1 1 [.pointer (some ⟨gF,j*6,none⟩),.string t,.int .i64 fv.sh,.int .i64 fv.n,.string fv.s,.slice fv.la fv.ln fv.lc] (by rfl) (by rfl) (Cs _ _ _ _ (by simp)) (OY rfl rfl rfl rfl rfl rfl) (by decide) (by unfold maxLen;omega) (by omega) (by simp;omega) (w6.heap.size+1) (by simp) ?_;intro g cap w7 vJ hgrow hat hg7;have g7:=(hgrow.block gR (by simp;omega) hne).trans ((AK _ _ _ l6).trans g6);have e7:=(World.cell?_of_block (a:=⟨gR,i*3+2,none⟩) (g7.trans g6.symm)).trans d6;have f7:=Am g7 (i*3+2);have l7:=Ab g7)
     |(go_simp;go_at_call 107;refine(Qn t _ ht).mono ?_;rintro _ w6 ⟨rfl,b6⟩;have bb:vE wc w6:=(by first|exact b6|exact(tM _ _).drew.trans b6);have hO6:=AT HOC.o bb;have d6:=Ah bb q2;have cN6:=(fun k=>(bb.cell (p:=⟨W.heap.size,k,none⟩) hlN5).trans (cN5 k));have c6:=(fun k=>(bb.cell (p:=⟨w3.heap.size,k,none⟩) hl5).trans (c5 k));have g6:=(bb.block gR hlR).trans HCU.o;have l6:=Ab g6;have z6:=bb.size))
    all_goals(
     have hF6:=HFD.o.below bb;have hvc:AX w6 (fun k=>B1<=k/\k<w6.heap.size/\∀r'∈rows,r'.v.ownBlock≠some k) 1603 fv (pv (Dk t)):=HV5.o.frame (fun g hg o=>bb.cell (p:=⟨g,o,none⟩) (Nat.lt_trans hg.2 hl5)) (fun g hg=>by
      have h1:w2.heap.size<=g:=hg.1;have h2:g<w3.heap.size:=hg.2;refine⟨by omega,by omega,fun r' hr' e=>?_⟩;obtain⟨jj,hjj⟩:=List.getElem?_of_mem hr';have:=KV (HF.o.c jj r' hjj) g e;omega)
     have HX:=Aa (hF6.push (c:=⟨gF,j*6,f,.pointer (some ⟨ku,0,none⟩),t,fv⟩) HI.o hgrow vJ (hat.imp (fun e=>e) (fun e=>by omega)) ⟨hgF,HFA.o.below' (fun k=>(bT (bT HB.o HB6.o) bb).cell (p:=⟨gF,k,none⟩) hgF)⟩ hB1 hvc HLC.o);have HBX:=Aa (show vE w0 (w7.setCell ⟨gR,i*3+2,none⟩ (.slice (some ⟨g,0,none⟩) (rcs.length+1) cap))from by
      have hb9:=bT (bT HB.o HB6.o) bb;have hz:=hgrow.size;simp at hz;have h9:=hb9.size;have hgw:w0.heap.size<=gR:=LV HF.o.s.r gR rfl;exact⟨hgrow.os.trans hb9.os,hgrow.tape.trans hb9.tape,hgrow.output.trans hb9.output,by simp[World.setCell];omega,fun k hk=>(tX _ _ _ _ (show k≠gR by omega)).trans ((hgrow.block k (by simp;omega) (fun e=>by have:=LV HOC.o k e.symm;omega)).trans ((AK _ _ _ (by omega)).trans (hb9.block k hk)))⟩)
     clear hgrow vJ hO6 hat g7 hF6 hvc bb g6 d6;go_wp2_with fail;go_ret;exact⟨Ak HTR.o.symm,HBX.o,fun _=>⟨_,_,HFK.o.1,HFK.o.2,rfl,HX.o⟩⟩)
end
def Ew(s:St):Prop:=∀t∈s.getD [],KU t
theorem Lh{s:St}(h:Ew s):Ew (tl s):=by
 match s with
 |none=>exact h
 |some []=>exact h
 |some (x::l)=>exact fun t ht=>h t (uW _ ht)
theorem Mn:Ew none:=fun t ht=>by simp at ht
theorem Yp{s:St}(h:Ew s)(b:Bool):Ew (mustT s b):=by
 unfold mustT;split
 ·exact Lh h
 ·exact Mn
theorem tB{s:St}(h:Ew s):Ew (IZ s):=by
 unfold IZ;split
 ·exact Lh h
 ·exact Mn
theorem Un{s:St}(h:Ew s):(hd s).s.size<=4000:=by
 match s with
 |none=>exact tU _
 |some []=>exact tU _
 |some (x::l)=>exact(h x (uX ..)).2.2.1
theorem UV{s:St}(h:Ew s):(Gq s).sh<=6/\(Gq s).s.size<=4000:=by
 have hh:=Un h;have h0:ByteArray.size ⟨#[]⟩<=4000:=tU _;unfold Gq;split
 ·exact⟨show 1<=6 by decide,h0⟩
 ·split
  ·rename_i h3
   refine⟨show 2<=6 by decide,?_⟩;have:(hd s).k=3:=(qI _).1 h3;show(rs (hd s)).size<=4000;unfold rs;rw[uC (by omega)];exact hh
  ·split
   ·exact⟨by decide,h0⟩
   ·split
    ·exact⟨by decide,h0⟩
    ·exact⟨tU _,h0⟩
theorem OW:∀(f:Nat),(∀(d:Nat) (s:St),Ew s->ln s<=801->Fa f (Bg f d s).1/\Ew (Bg f d s).2)/\∀(d:Nat) (s:St),Ew s->ln s<=801->(Bm f d s).1.length<=ln s/\(∀r∈(Bm f d s).1,Fa f r)/\Ew (Bm f d s).2
 |0=>⟨fun d s h _=>by rw[Bg];exact⟨⟨tU _,tU _,rfl⟩,h⟩,fun d s h _=>by rw[Bm];exact⟨tU _,fun r hr=>by simp at hr,h⟩⟩
 |f+1=>by
  obtain⟨ih1,ih2⟩:=OW f;have up:∀(k:Nat) (r:RV),Fa k r->Fa (k+1) r:=fun k=>by
   induction k with
   |zero=>intro r hr;obtain⟨sh,n,s,l⟩:=r;obtain⟨h1,h2,h3⟩:=hr;exact⟨h1,h2,by rw[h3];simp,fun r hr=>by rw[h3]at hr;simp at hr⟩
   |succ k ih=>intro r hr;obtain⟨sh,n,s,l⟩:=r;obtain⟨h1,h2,h3,h4⟩:=hr;exact⟨h1,h2,h3,fun r hr=>ih r (h4 r hr)⟩
  refine⟨fun d s h hl=>?_,fun d s h hl=>?_⟩
  ·rw[Bg]
   split
   ·exact⟨⟨(UV h).1,(UV h).2,by simp,fun r hr=>by simp at hr⟩,Lh h⟩
   ·split
    ·exact⟨⟨by decide,tU _,by simp,fun r hr=>by simp at hr⟩,Lh h⟩
    ·split
     ·refine⟨⟨by decide,?_,by simp,fun r hr=>by simp at hr⟩,tB (Lh h)⟩
      unfold tx;split
      ·exact Un (Lh h)
      ·exact tU _
     ·have hs:Ew (if 10<=d then none else mustT s (Ad s 12)):=by split;exact Mn;exact Yp h _
      have hn:ln (if 10<=d then none else mustT s (Ad s 12))<=ln s:=by split;exact tU _;exact Do _ _
      obtain⟨a,b,c⟩:=ih2 d _ hs (tQ hn hl);exact⟨⟨by decide,tU _,by omega,b⟩,c⟩
  ·rw[Bm]
   split
   ·rename_i e;subst e;exact⟨tU _,fun r hr=>by simp at hr,h⟩
   ·split
    ·exact⟨tU _,fun r hr=>by simp at hr,Lh h⟩
    ·rename_i h0 _
     obtain⟨a,b⟩:=ih1 (d+1) s h hl;have hln:=(Rg f).1 (d+1) s;obtain⟨a2,b2,c2⟩:=ih2 d _ b (tQ hln hl);refine⟨?_,fun r hr=>?_,c2⟩
     ·rw[uQ]
      cases f with
      |zero=>rw[Bm];cases s with|none=>exact absurd rfl h0|some l=>simp[ln]
      |succ f=>have:=UW f (d+1) s h0;omega
     ·rcases vB.1 hr with e|e
      ·rw[e];exact up _ _ a
      ·exact up _ _ (b2 r e)
theorem Rx(x:vD):Fa 1603 (Dk x):=by
 have hw:Ew (Af x)/\ln (Af x)<=801:=by
  cases h:Af x with
  |none=>exact⟨Mn,tU _⟩
  |some ts=>have:=MO x ts h;exact⟨this.1,by show ts.length+1<=801;omega⟩
 exact((OW 1603).1 0 (Af x) hw.1 hw.2).1
def Kd(R:vD->vD->Bool)(wZ:List Al):List vD->List IA->Bool
 |_,[]=>true
 |ns,c::cs=>JU R wZ ns c.1 c.2&&Kd R wZ (ns++[c.1]) cs
def GR(R:vD->vD->Bool)(objs:List Ap)(y:Bc):Bool:=match objs[(Ae (objs.map Ap.name) y.1).toNat]? with
 |some o=>Kd R o.fields [] y.2.2
 |none=>false
structure Mq(objs:List Ap)(r:AE)(l:List IA):Prop where
 e:r.cs.map (fun c=>(c.f.name,c.t))=l
 f:∀c∈r.cs,∀o,objs[r.k]?=some o->o.fields[(Ae (o.fields.map Al.name) c.f.name).toNat]?=some c.f
theorem qA(objs:List Ap)(ifs uns:List vD)(us:List Au){rows rows':List AE}(h:rows.map (fun r=>(r.k,r.id))=rows'.map (fun r=>(r.k,r.id))):DH objs ifs uns us rows=DH objs ifs uns us rows':=by
 funext c id;have h1:rows.map AE.id=rows'.map AE.id:=by
  have:=congrArg (List.map Prod.snd) h;rw[List.map_map,List.map_map]at this;exact this
 have h2:∀j:Nat,(rows[j]?).map AE.k=(rows'[j]?).map AE.k:=fun j=>by
  have:=congrArg (fun l:List (Nat×vD)=>(l[j]?).map Prod.fst) h;simp only[uD,Option.map_map]at this;exact this
 unfold DH;rw[h1];split
 ·rfl
 ·split
  ·rfl
  ·have:=h2 (Ae (rows'.map AE.id) id).toNat
   generalize rows[(Ae (rows'.map AE.id) id).toNat]?=a at*;generalize rows'[(Ae (rows'.map AE.id) id).toNat]?=b at*;cases a with
   |none=>cases b with
    |none=>rfl
    |some r=>cases this
   |some r=>cases b with
    |none=>cases this
    |some r'=>
     have e:r.k=r'.k:=tY this;dsimp only;rw[e]
def kid(r:AE):Nat×vD:=(r.k,r.id)
section
variable {w0:World} {S:Nat} {vR vO vI vU vN:Value} {LR:List (At×Value)} {LO:List AV} {LI:List (As×Value)} {LU:List (Au×Value)} {names:List vD} {T M gO B1 gR cR:Nat} {vY:List AE}
theorem dD(h:SV w0 S vR vO vI vU vN LR LO LI LU names)(hg:∃c,vO=.slice (some ⟨gO,0,none⟩) LO.length c)(W:World)(hB:vE w0 W)(hF:FS W T S M gO w0.heap.size B1 gR cR vY)(hB1:w0.heap.size<=B1)(aY:Option Addr)(cY:Nat)(ys:List Bc)(hY:Fh w0 (.slice aY ys.length cY) ys)(hyl:ys.length<=200)(hlen:vY.length=ys.length)(hk:∀r∈vY,r.k<LO.length)
 (hr0:∀(j:Nat) (r:AE) (y:Bc),vY[j]?=some r->ys[j]?=some y->r.cs=[]/\r.k=(Ae ((LO.map Prod.fst).map Ap.name) y.1).toNat) (hcl:∀y∈ys,y.2.2.length<=900000/\∀c∈y.2.2,c.2.size<=2000000):
 Calls prog 31 #[.pointer (some ⟨T,0,none⟩),.slice aY ys.length cY] W fun e w'=>e=.returned (.bool (ys.all (GR (DH (LO.map Prod.fst) (LI.map iN) (LU.map uN) (LU.map Prod.fst) vY) (LO.map Prod.fst))))/\vE w0 w'/\(ys.all (GR (DH (LO.map Prod.fst) (LI.map iN) (LU.map uN) (LU.map Prod.fst) vY) (LO.map Prod.fst))=true->∃rows,FS w' T S M gO w0.heap.size B1 gR cR rows/\rows.map kid=vY.map kid/\∀(j:Nat) (r:AE) (y:Bc),rows[j]?=some r->ys[j]?=some y->Mq (LO.map Prod.fst) r y.2.2):=by
 obtain⟨R,HR⟩:∃R,Hi (R=DH (LO.map Prod.fst) (LI.map iN) (LU.map uN) (LU.map Prod.fst) vY):=⟨_,Aa rfl⟩;rw[<-HR.o];obtain⟨q,HQ⟩:∃q,Hi (q=ys.all (GR R (LO.map Prod.fst))):=⟨_,Aa rfl⟩;rw[<-HQ.o];have HA:=Aa (fun X (hX:vE w0 X) rows (hF':FS X T S M gO w0.heap.size B1 gR cR rows) (hk':∀r∈rows,r.k<LO.length)=>dF h hg X hX hF' hB1 hk');have HY:=Aa hY;have HF:=Aa hF;have HB:=Aa hB;have HK:=Aa hk;have HR0:=Aa hr0;have HCL:=Aa hcl;have hTl:=hF.t;have hgl:=hF.g;have hbW:=hF.b;clear h hg hF hB hY hk hr0 hcl;go_enter func31,ntmps31;go_wp2_with fail;go_loopg [5,6,8,11,17,18,19] ys.length (fun m v5 v6 v8 v11 v17 v18 v19 wr=>∃(i:Nat) (rows:List AE),v11=.int .i64 i/\i<=ys.length/\ys.length-i<=m/\vE w0 wr/\FS wr T S M gO w0.heap.size B1 gR cR rows/\rows.map kid=vY.map kid/\(∀(j:Nat) (r:AE) (y:Bc),j<i->rows[j]?=some r->ys[j]?=some y->Mq (LO.map Prod.fst) r y.2.2)/\(∀(j:Nat) (r:AE),i<=j->rows[j]?=some r->r.cs=[])/\q=(ys.drop i).all (GR R (LO.map Prod.fst)))
 case atStart=>
  refine⟨0,vY,rfl,tU _,tL _,HB.o,HF.o,rfl,fun j r y hj=>absurd hj (Nat.not_lt_zero _),fun j r _ hj=>?_,HQ.o⟩;have hjl:j<ys.length:=by rw[<-hlen];exact(tP.1 hj).1
  exact(HR0.o j r _ hj (tN hjl)).1
 case round=>
  obtain⟨i,rows,rfl,hil,hm,hb,hf,yB,hdone,hrest,hq⟩:=hrel;have HBR:=Aa hb;have HFR:=Aa hf;have HKI:=Aa yB;have HDO:=Aa hdone;have HRE:=Aa hrest;have HQI:=Aa hq;clear hb hf yB hdone hrest hq;by_cases hlt:i<ys.length
  ·have hx:=tN hlt
   generalize ys[i]=y at hx;have hrl:rows.length=ys.length:=by have:=congrArg List.length HKI.o;simp only[uP]at this;omega
   obtain⟨r0,hr0⟩:∃r0,rows[i]?=some r0:=⟨_,tN (by omega)⟩;have yR:∀rows':List AE,rows'.map kid=vY.map kid->∀r∈rows',r.k<LO.length:=fun rows' e r hr=>by
    have:kid r∈vY.map kid:=by rw[<-e];exact List.mem_map_of_mem hr
    obtain⟨r1,h1,h2⟩:=List.mem_map.1 this;have:=HK.o r1 h1;have e1:r1.k=r.k:=congrArg Prod.fst h2;omega
   have hrk:=yR rows HKI.o r0 (tO hr0);obtain⟨x,hxo⟩:∃x,LO[r0.k]?=some x:=⟨_,tN hrk⟩;have hrk2:r0.k=(Ae ((LO.map Prod.fst).map Ap.name) y.1).toNat:=by
    have e:(rows.map kid)[i]?=(vY.map kid)[i]?:=by rw[HKI.o]
    rw[uD,uD,hr0]at e;obtain⟨r1,h1⟩:∃r1,vY[i]?=some r1:=⟨_,tN (by omega)⟩;rw[h1]at e;rw[<-(HR0.o i r1 y h1 hx).2];exact congrArg Prod.fst (tY e)
   have HQN:=Aa (show q=(Kd R x.1.fields [] y.2.2&&(ys.drop (i+1)).all (GR R (LO.map Prod.fst)))from by
    rw[HQI.o,Oe hx];show(GR R (LO.map Prod.fst) y&&_)=_;unfold GR;rw[<-hrk2,uD,hxo];rfl)
   obtain⟨gY,oY,aC,cC,e,y0,y1,y2,hyc⟩:=HY.o.at hx;subst e;have HYC:=Aa hyc;have y0:=Ah HBR.o y0;have y1:=Ah HBR.o y1;have y2:=Ah HBR.o y2;clear hyc;have hgY:gY<wr.heap.size:=tR wr _ y0;obtain⟨qy,HQY⟩:∃qy,Hi (qy=Kd R x.1.fields [] y.2.2):=⟨_,Aa rfl⟩;rw[<-HQY.o]at HQN;have HX:=Aa (uV hx (uV hxo hr0));have HKA:=Aa yR;have hycl:=HCL.o y (tO hx);have hcl1:=hycl.1;have HCT:=Aa hycl.2;have hcs0:=HRE.o i r0 (tL _) hr0;have HC0:=Aa (show Mq (LO.map Prod.fst) r0 (y.2.2.take 0)from⟨by rw[hcs0];rfl,fun c hc=>by rw[hcs0]at hc;simp at hc⟩);obtain⟨wo,rfl⟩:∃wo:World,wo=wr:=⟨_,rfl⟩;clear hx hxo hr0 yR hrk hrk2 hycl hcs0 HQI;go_wp2_with fail;go_loopg [8,19] y.2.2.length (fun m v8 v19 wr=>∃(k:Nat) (rows':List AE) (r:AE),v19=.int .i64 k/\k<=y.2.2.length/\y.2.2.length-k<=m/\vE w0 wr/\FS wr T S M gO w0.heap.size B1 gR cR rows'/\rows'.map kid=vY.map kid/\(∀j,j≠i->rows'[j]?=rows[j]?)/\rows'[i]?=some r/\r.k=r0.k/\Mq (LO.map Prod.fst) r (y.2.2.take k)/\qy=Kd R x.1.fields ((y.2.2.take k).map (·.1)) (y.2.2.drop k))
   case atStart=>exact⟨0,rows,r0,rfl,tU _,tL _,bA HBR.o _,HFR.o.below (bA (tM _ _) _),HKI.o,fun _ _=>rfl,HX.o.2.2,rfl,HC0.o,HQY.o⟩
   case round=>
    clear y0 y1 y2 hgY;obtain⟨k,rows',r,rfl,hkl,hm2,hb,hf,yB,hoth,hri,hrk,hca,hqk⟩:=hrel;have HBK:=Aa hb;have HFK:=Aa hf;have HKK:=Aa yB;have HOT:=Aa hoth;have HRI:=Aa hri;have HCA:=Aa hca;have HQK:=Aa hqk;have HRK:=Aa hrk;clear hb hf yB hoth hri hca hqk hrk;by_cases hlt2:k<y.2.2.length
    ·have hc:=tN hlt2
     generalize y.2.2[k]=c at hc;obtain⟨gC,oC,e,c0,c1⟩:=(HYC.o.below HBK.o).at hc;subst e;have hgC:gC<wr.heap.size:=tR wr _ c0;obtain⟨rk,rid,rv,rcs⟩:=r;have hco:=HFK.o.c i _ HRI.o;obtain⟨aV,cV,hv⟩:=An hco;simp only at hv;subst hv;have hrk:rk=r0.k:=HRK.o;subst hrk;have hns:rcs.map Cv=(y.2.2.take k).map (·.1):=by rw[<-HCA.o.e,List.map_map];rfl
     have hrcl:rcs.length<=900000:=by
      have:=congrArg List.length hns;simp only[uP,List.length_take]at this;omega
     have hRR:DH (LO.map Prod.fst) (LI.map iN) (LU.map uN) (LU.map Prod.fst) rows'=R:=by rw[HR.o];exact qA _ _ _ _ HKK.o
     have HFI:=Aa (fun X (hX:vE wr X)=>HA.o X (bT HBK.o hX) rows' (HFK.o.below hX) (HKA.o rows' HKK.o) i r0.k rid aV cV rcs x HRI.o HX.o.2.1 (by omega) c.1 c.2 (HCT.o c (tO hc)) (Rx c.2));rw[hRR,hns]at HFI;have HQC:=Aa (show qy=(JU R x.1.fields ((y.2.2.take k).map (·.1)) c.1 c.2&&Kd R x.1.fields ((y.2.2.take (k+1)).map (·.1)) (y.2.2.drop (k+1)))from by
      rw[HQK.o,Oe hc,uG,hc,uU];rfl)
     have HTK:=Aa (show y.2.2.take (k+1)=y.2.2.take k++[c]from by rw[uG,hc];rfl);obtain⟨qf,HQF⟩:∃qf,Hi (JU R x.1.fields ((y.2.2.take k).map (·.1)) c.1 c.2=qf):=⟨_,Aa rfl⟩;rw[HQF.o]at HQC HFI;have cT:=Ac HFK.o.s.b;have hlT:=Ab HFK.o.s.b;have hrl2:rows'.length=ys.length:=by have:=congrArg List.length HKK.o;simp only[uP]at this;omega
     rw[hrl2]at cT;clear hc hco hRR hns;go_upto_region 7 with fail;have hN:=tS wr (.cells #[.string c.1,.string c.2] 53);have hb:=bA (tM wr.heap.size wr) (.cells #[.string c.1,.string c.2] 53);generalize wr.alloc (.cells #[.string c.1,.string c.2] 53)=W1 at*;have cN:=Ac hN;have hlN:=Ab hN;have HB1:=Aa hb;have cT:=fun k=>(hb.cell (p:=⟨T,k,none⟩) hlT).trans (cT k);have hlT1:T<W1.heap.size:=tV hlT hb.size;clear hN hb;go_cut [32] (fun v32 wd=>v32=.bool (!qf)/\vE w0 wd/\(qf=true->∃v' c',x.1.fields[(Ae (x.1.fields.map Al.name) c.1).toNat]?=some (BR.f c')/\c'.f.name=c.1/\c'.t=c.2/\FS wd T S M gO w0.heap.size B1 gR cR (rows'.set i ⟨r0.k,rid,v',rcs++[c']⟩)))
     case first=>
      go_region_with (go_at_call 62;refine(HFI.o _ ?_).mono ?_;(first|exact HB1.o.drew|exact HB1.o);rintro _ w2 ⟨rfl,b2,h2⟩);all_goals(try go_wp2_with fail)
      all_goals(go_meet;exact⟨rfl,b2,h2⟩)
     case rest=>
      obtain⟨rfl,hbd,hfd⟩:=hcut;clear cN cT c0 c1;cases qf
      ·have HF0:=Aa (show q=false from by rw[HQN.o,HQC.o];rfl)
       go_wp2_with fail;go_ret;exact⟨Ak HF0.o.symm,hbd,fun e=>by rw[HF0.o]at e;cases e⟩
      ·obtain⟨v',c',h1,h2,h3,h4⟩:=hfd rfl
       have HH:=Aa (uV h1 (uV h2 (uV h3 h4)));have HBD:=Aa hbd;clear h1 h2 h3 h4 hfd hbd;go_wp2_with fail;go_roundg (y.2.2.length-(k+1))
       case measure=>omega
       case rel=>
        have hil2:i<rows'.length:=by omega
        refine⟨k+1,_,⟨r0.k,rid,v',rcs++[c']⟩,by go_num,by omega,tL _,HBD.o,HH.o.2.2.2,?_,fun j hj=>by rw[List.getElem?_set_ne (fun e=>hj e.symm)];exact HOT.o j hj,List.getElem?_set_self hil2,rfl,⟨?_,fun c2 hc2 o ho=>?_⟩,HQC.o⟩
        ·rw[<-HKK.o,List.map_set]
         refine List.ext_getElem? (fun j=>?_);by_cases e:i=j
         ·subst e;rw[List.getElem?_set_self (by rw[uP];exact hil2),uD,HRI.o];rfl
         ·rw[List.getElem?_set_ne e]
        ·rw[HTK.o,uU]
         show List.map _ rcs++[(c'.f.name,c'.t)]=_;rw[HH.o.2.1,HH.o.2.2.1,show rcs.map (fun c=>(c.f.name,c.t))=y.2.2.take k from HCA.o.e]
        ·rcases uZ.1 hc2 with e|e
         ·exact HCA.o.f c2 e o ho
         ·rw[List.mem_singleton]at e
          subst e;have ho':(LO.map Prod.fst)[r0.k]?=some o:=ho;rw[uD,HX.o.2.1]at ho';have e1:=tY ho';rw[<-e1,HH.o.2.1];exact HH.o.1
    ·have hke:k=y.2.2.length:=by omega
     subst hke;have HTT:=Aa (show q=(ys.drop (i+1)).all (GR R (LO.map Prod.fst))from by rw[HQN.o,HQK.o,List.drop_length];rfl);go_wp2_with fail;go_roundg (ys.length-(i+1))
     case measure=>omega
     case rel=>
      refine⟨i+1,rows',by go_num,by omega,tL _,HBK.o,HFK.o,HKK.o,fun j r' y' hj hr' hy'=>?_,fun j r' hj hr'=>?_,HTT.o⟩
      ·by_cases e:j=i
       ·subst e
        rw[HRI.o]at hr';rw[HX.o.1]at hy';have e1:=tY hr';have e2:=tY hy';subst e1 e2;have:=HCA.o;rw[List.take_length]at this;exact this
       ·rw[HOT.o j e]at hr'
        exact HDO.o j r' y' (by omega) hr' hy'
      ·rw[HOT.o j (by omega)]at hr'
       exact HRE.o j r' (by omega) hr'
  ·have hie:i=ys.length:=by omega
   subst hie;have HT1:=Aa (show q=true from by rw[HQI.o,List.drop_length];rfl);go_wp2_with fail;go_ret;exact⟨Ak HT1.o.symm,HBR.o,fun _=>⟨rows,HFR.o,HKI.o,fun j r y hr hy=>HDO.o j r y (tP.1 hy).1 hr hy⟩⟩
end
open Go.Maps Tryz
structure NP(w:World)(objs:List Ap)(y:Bc)(r:AE):Prop where
 k:r.k=(Ae (objs.map Ap.name) y.1).toNat
 id:r.id=y.2.1
 c:Ge w r.v r.cs
 a:Mq objs r y.2.2
 v:∀c∈r.cs,AX w (fun g=>g<w.heap.size) 1603 c.c (pv (Dk c.t))/\c.c.ln<=c.c.lc
structure JM(w:World)(T S gO:Nat)(objs:List Ap)(ys:List Bc):Prop where
 ex:∃M B vL qs,EA w T S M gO B vL qs/\qs.length=ys.length/\∀(j:Nat) (r:AE) (y:Bc),qs[j]?=some r->ys[j]?=some y->NP w objs y r
theorem NP.below{w w':World}{objs:List Ap}{y:Bc}{r:AE}(h:NP w objs y r)(hb:vE w w'):NP w' objs y r:=
 ⟨h.k,h.id,h.c.below hb,h.a,fun c hc=>⟨(h.v c hc).1.frame (fun g hg o=>hb.cell (p:=⟨g,o,none⟩) hg) (fun _ hg=>tV hg hb.size),(h.v c hc).2⟩⟩
theorem JM.below{w w':World}{T S gO:Nat}{objs:List Ap}{ys:List Bc}(h:JM w T S gO objs ys)(hb:vE w w'):JM w' T S gO objs ys:=by
 obtain⟨M,B,vL,qs,h1,h2,h3⟩:=h.ex;exact⟨M,B,vL,qs,h1.below hb,h2,fun j r y hr hy=>(h3 j r y hr hy).below hb⟩
theorem dE(W:World)(T cY:Nat)(aY:Option Addr):Calls prog 31 #[.pointer (some ⟨T,0,none⟩),.slice aY 0 cY] W fun e w'=>e=.returned (.bool true)/\vE W w':=by
 go_enter func31,ntmps31;go_wp2_with fail;go_loopg [5,6,8,11,17,18,19] 0 (fun m v5 v6 v8 v11 v17 v18 v19 wr=>v11=.int .i64 0/\wr=W)
 case atStart=>exact⟨rfl,rfl⟩
 case round=>
  obtain⟨rfl,rfl⟩:=hrel;go_wp2_with fail;go_ret;exact⟨rfl,tM _ _⟩
theorem VE(w:World):(Instr.makeMap 73 none).run prog w=.ok (.map (some w.heap.size)) (w.alloc (.map #[] 0)):=by
 unfold Instr.makeMap;simp[go_sem]
def Lc(objs:List Ap)(ifs uns:List vD)(us:List Au)(ys:List Bc):Bool:=decide (ys.length<=200)&&(GC (objs.map Ap.name) [] ys&&ys.all (GR (DH objs ifs uns us (ys.map (qz (objs.map Ap.name)))) objs))
theorem Qc(objs:List vD):∀(ys:List Bc) (acc:List AE),GC objs acc ys=true->∀y∈ys,0<=Ae objs y.1
 |[],_,_,y,hy=>by simp at hy
 |z::ys,acc,h,y,hy=>by
  rw[GC,uL]at h;rcases vB.1 hy with e|e
  ·rw[e]
   have:=h.1;unfold Jo at this;simp only[uL,uF]at this;exact this.1
  ·exact Qc objs ys _ h.2 y e
section
variable {S:Nat} {vR vO vI vU vN:Value} {LR:List (At×Value)} {LO:List AV} {LI:List (As×Value)} {LU:List (Au×Value)} {names:List vD} {gO:Nat}
theorem rA(w:World)(h:SV w S vR vO vI vU vN LR LO LI LU names)(hg:∃c,vO=.slice (some ⟨gO,0,none⟩) LO.length c)(aY:Option Addr)(cY:Nat)(ys:List Bc)(hY:Fh w (.slice aY ys.length cY) ys)(hyl:ys.length<=1000000)(hcl:∀y∈ys,y.2.1.size<=2000000/\y.2.2.length<=900000/\∀c∈y.2.2,c.2.size<=2000000):
 Calls prog 16 #[.pointer (some ⟨S,0,none⟩),.slice aY ys.length cY] w fun e w'=>∃q,e=.returned (.tuple #[.pointer q,.int .i64 (if Lc (LO.map Prod.fst) (LI.map iN) (LU.map uN) (LU.map Prod.fst) ys=true then 0 else 3)])/\vE w w'/\(Lc (LO.map Prod.fst) (LI.map iN) (LU.map uN) (LU.map Prod.fst) ys=true->∃T,q=some ⟨T,0,none⟩/\JM w' T S gO (LO.map Prod.fst) ys):=by
 have hmn:(LO.map Prod.fst).map Ap.name=LO.map oN:=by rw[List.map_map];rfl
 have HQ:=Aa (Lc.eq_1 (LO.map Prod.fst) (LI.map iN) (LU.map uN) (LU.map Prod.fst) ys);rw[hmn]at HQ;generalize Lc (LO.map Prod.fst) (LI.map iN) (LU.map uN) (LU.map Prod.fst) ys=q at*;obtain⟨ev,HEV⟩:∃ev:Int,Hi (ev=if q=true then 0 else 3):=⟨_,Aa rfl⟩;obtain⟨PST,HPST⟩:∃PST:Option Addr->World->Prop,Hi (PST=fun q' X=>q=true->∃T,q'=some ⟨T,0,none⟩/\JM X T S gO (LO.map Prod.fst) ys):=⟨_,Aa rfl⟩
 suffices key:Calls prog 16 #[.pointer (some ⟨S,0,none⟩),.slice aY ys.length cY] w fun e w'=>∃q',e=.returned (.tuple #[.pointer q',.int .i64 ev])/\vE w w'/\PST q' w' by
  refine key.mono ?_;rintro e w' ⟨q',h1,h2,h3⟩;rw[HEV.o]at h1;rw[HPST.o]at h3;exact⟨q',h1,h2,h3⟩
 have RF:=Aa (show q=false->∀X,vE w X->∃q',Ending.returned (Value.tuple #[.pointer none,.int .i64 3])=.returned (.tuple #[.pointer q',.int .i64 ev])/\vE w X/\PST q' X from fun e X hX=>⟨none,by rw[HEV.o,e];rfl,hX,by rw[HPST.o];exact fun e'=>by rw[e]at e';cases e'⟩);have HY:=Aa hY;have HH:=Aa h;have HG:=Aa hg;have HMN:=Aa hmn;have hmm:=VE;clear h hY hg hmn;by_cases h200:200<ys.length
 ·have HF:=Aa (show q=false from by rw[HQ.o,tT (by omega)];rfl)
  have hd:decide ((200:Int)<(ys.length:Int))=true:=by simp;omega
  go_enter func16,ntmps16;go_wp2_with fail;refine bodyPost_ret (v:=.tuple #[.pointer none,.int .i64 3]) (by simp[results,results16,go_sem]) rfl (RF.o HF.o _ ?_);repeat' with_reducible first|exact tM _ _|refine bA ?_ _
 have hd:decide ((200:Int)<(ys.length:Int))=false:=by simp;omega
 rw[uH (show ys.length<=200 by omega)]at HQ;have HQ1:=Aa (show q=(GC (LO.map oN) [] ys&&ys.all (GR (DH (LO.map Prod.fst) (LI.map iN) (LU.map uN) (LU.map Prod.fst) (ys.map (qz (LO.map oN)))) (LO.map Prod.fst)))from HQ.o);clear HQ;obtain⟨qa,HQA⟩:∃qa,Hi (GC (LO.map oN) [] ys=qa):=⟨_,Aa rfl⟩;rw[HQA.o]at HQ1;go_enter func16,ntmps16;go_wp2_with fail;have hT1:((w.alloc (.map #[] 0)).alloc (.cells #[.slice none 0 0,.pointer (some ⟨S,0,none⟩),.map (some w.heap.size)] 75)).heap[w.heap.size+1]?=some (.cells #[.slice none 0 0,.pointer (some ⟨S,0,none⟩),.map (some w.heap.size)] 75 (0,0)):=by have:=tS (w.alloc (.map #[] 0)) (.cells #[.slice none 0 0,.pointer (some ⟨S,0,none⟩),.map (some w.heap.size)] 75);simpa using this
 have hM1:BP ((w.alloc (.map #[] 0)).alloc (.cells #[.slice none 0 0,.pointer (some ⟨S,0,none⟩),.map (some w.heap.size)] 75)) w.heap.size 0 (.map []):=(World.ownsMap_made w _ _ _).alloc _;have hB1:vE w ((w.alloc (.map #[] 0)).alloc (.cells #[.slice none 0 0,.pointer (some ⟨S,0,none⟩),.map (some w.heap.size)] 75)):=bA (bA (tM _ _) _) _;generalize (w.alloc (.map #[] 0)).alloc (.cells #[.slice none 0 0,.pointer (some ⟨S,0,none⟩),.map (some w.heap.size)] 75)=W1 at*;have HST:=Aa (show EA W1 (w.heap.size+1) S w.heap.size gO w.heap.size (.slice none 0 0) []from⟨hT1,uA _ _ _ _,⟨.map [],hM1,PM.nil⟩,List.nodup_nil,by simp⟩);have HB1:=Aa hB1;clear hT1 hM1 hB1;have HAA:=Aa (YM HH.o HG.o W1 HB1.o HST.o (Nat.le_succ _) (tL _) aY cY ys HY.o (by omega) (fun y hy=>(hcl y hy).1));rw[HQA.o]at HAA;refine HAA.o.mono ?_;rintro _ W2 ⟨rfl,b2,h2⟩;cases qa
 ·have HF:=Aa (show q=false from HQ1.o)
  go_wp2_with fail;exact bodyPost_ret (v:=.tuple #[.pointer none,.int .i64 3]) (by simp[results,results16,go_sem]) rfl (RF.o HF.o _ b2)
 obtain⟨vL,hst⟩:=h2 rfl;have HS2:=Aa hst;have HB2:=Aa b2;clear hst h2 b2 HAA;have HQ2:=Aa (show q=ys.all (GR (DH (LO.map Prod.fst) (LI.map iN) (LU.map uN) (LU.map Prod.fst) (ys.map (qz (LO.map oN)))) (LO.map Prod.fst))from HQ1.o);clear HQ1;by_cases hne:ys=[]
 ·subst hne
  have HT:=Aa (show q=true from HQ2.o);go_wp2_with fail;refine(dE W2 (w.heap.size+1) cY aY).mono ?_;rintro _ W3 ⟨rfl,b3⟩;go_wp2_with fail;refine bodyPost_ret (v:=.tuple #[.pointer (some ⟨w.heap.size+1,0,none⟩),.int .i64 0]) (by simp[results,results16,go_sem]) rfl ⟨some ⟨w.heap.size+1,0,none⟩,by rw[HEV.o,HT.o];rfl,bT HB2.o b3,?_⟩;rw[HPST.o];intro _;exact⟨_,rfl,⟨_,_,_,_,HS2.o.below b3,rfl,fun j r y _ hy=>by simp at hy⟩⟩
 obtain⟨y0,hy0⟩:∃y0,ys[0]?=some y0:=by
  cases ys with
  |nil=>exact absurd rfl hne
  |cons y l=>exact⟨y,rfl⟩
 obtain⟨gR,cap,hvL,_,_,_⟩:=HS2.o.at (show(ys.map (qz (LO.map oN)))[0]?=some (qz (LO.map oN) y0)by rw[uD,hy0];rfl);subst hvL;have hzr:∀(j:Nat) (r:AE),(ys.map (qz (LO.map oN)))[j]?=some r->∃y,ys[j]?=some y/\r=qz (LO.map oN) y:=fun j r hj=>by
  rw[uD]at hj;obtain⟨y,h1,h2⟩:=uY.1 hj;exact⟨y,h1,h2.symm⟩
 have hzm:∀r∈ys.map (qz (LO.map oN)),∃y∈ys,r=qz (LO.map oN) y:=fun r hr=>by
  obtain⟨y,h1,h2⟩:=List.mem_map.1 hr;exact⟨y,h1,h2.symm⟩
 have HFS:=Aa (show FS W2 (w.heap.size+1) S w.heap.size gO w.heap.size W2.heap.size gR cap (ys.map (qz (LO.map oN)))from
  {s:=HS2.o
   t:=Ab HS2.o.b
   g:=KV HS2.o.r gR rfl
   b:=tL _
   c:=fun j r hj=>by obtain⟨y,_,e⟩:=hzr j r hj;subst e;exact uA _ _ _ _
   d:=fun i j r r' _ hi _ k hk=>by obtain⟨y,_,e⟩:=hzr i r hi;subst e;cases hk
   f:=fun r hr c hc=>by obtain⟨y,_,e⟩:=hzm r hr;subst e;simp[qz]at hc
   v:=fun r hr c hc=>by obtain⟨y,_,e⟩:=hzm r hr;subst e;simp[qz]at hc
   lc:=fun r hr c hc=>by obtain⟨y,_,e⟩:=hzm r hr;subst e;simp[qz]at hc})
 have hids:=Qc _ ys [] HQA.o;have HFA:=Aa (dD HH.o HG.o W2 HB2.o HFS.o HB2.o.size aY cY ys HY.o (by omega) (uP _) (fun r hr=>by
  obtain⟨y,hy,e⟩:=hzm r hr;subst e;have h1:=hids y hy;have h2:=(Hn (LO.map oN) y.1).2;rw[uP]at h2;show(Ae (LO.map oN) y.1).toNat<LO.length;omega) (fun j r y hj hy=>by
  obtain⟨y',h1,e⟩:=hzr j r hj;rw[hy]at h1;have e1:=tY h1;subst e1 e;exact⟨rfl,by rw[HMN.o];rfl⟩) (fun y hy=>(hcl y hy).2))
 rw[<-HQ2.o]at HFA;clear hzr hzm hids hy0;go_wp2_with fail;refine HFA.o.mono ?_;rintro _ W3 ⟨rfl,b3,h3⟩;cases q
 ·go_wp2_with fail
  exact bodyPost_ret (v:=.tuple #[.pointer none,.int .i64 3]) (by simp[results,results16,go_sem]) rfl (RF.o trivial _ b3)
 ·obtain⟨rows,hf,yB,hca⟩:=h3 rfl
  go_wp2_with fail;refine bodyPost_ret (v:=.tuple #[.pointer (some ⟨w.heap.size+1,0,none⟩),.int .i64 0]) (by simp[results,results16,go_sem]) rfl ⟨some ⟨w.heap.size+1,0,none⟩,by rw[HEV.o];rfl,b3,?_⟩;rw[HPST.o];intro _;have hrl:rows.length=ys.length:=by have:=congrArg List.length yB;simpa using this
  refine⟨_,rfl,⟨_,_,_,rows,hf.s,hrl,fun j r y hr hj=>?_⟩⟩;have hkj:kid r=kid (qz (LO.map oN) y):=by
   have e:(rows.map kid)[j]?=((ys.map (qz (LO.map oN))).map kid)[j]?:=by rw[yB]
   rw[uD,hr,uD,uD,hj]at e;exact tY e
  have hk1:r.k=(Ae (LO.map oN) y.1).toNat:=congrArg Prod.fst hkj;have hk2:r.id=y.2.1:=congrArg Prod.snd hkj;exact⟨by rw[HMN.o];exact hk1,hk2,hf.cells hr,hca j r y hr hj,fun c hc=>⟨(hf.v r (tO hr) c hc).frame (fun _ _ _=>rfl) (fun g hg=>hg.2.1),hf.lc r (tO hr) c hc⟩⟩
end
open Go.ChangeMaps Tryz
def MY(z:List (vD×Bool)):List vD:=(z.filter (·.2)).map (·.1)
def Fq(roles:List At)(vG:vD):List vD:=if Ae (roles.map At.name) vG<0 then []else vG::MY ((roles.map At.name).zip (CL roles (2*roles.length+1) ([(Ae (roles.map At.name) vG).toNat],List.replicate roles.length false)))
section
variable {w:World} {S:Nat} {vR vO vI vU vN:Value} {LR:List (At×Value)} {LO:List AV} {LI:List (As×Value)} {LU:List (Au×Value)} {names:List vD}
theorem dW(h:SV w S vR vO vI vU vN LR LO LI LU names)(hnd:(LR.map rN).Nodup)(xC:∀x∈LR,∀y∈x.1.inc,y∈LR.map rN/\y.size<=4000)(hsz:∀y∈LR.map rN,y.size<=4000)(vG:vD)(hr:vG.size<=2000000):
 Calls prog 39 #[.pointer (some ⟨S,0,none⟩),.string vG] w fun e w'=>∃v,e=.returned v/\(∃B,w'.ownsRow B 9 1 v (Fq (LR.map Prod.fst) vG).length (Bi (Fq (LR.map Prod.fst) vG)))/\(Fq (LR.map Prod.fst) vG).length<=1000/\vE w w':=by
 obtain⟨i0,hi,hz0,hz1,hz2⟩:=info_parts info9';have hmn:(LR.map Prod.fst).map At.name=LR.map rN:=by rw[List.map_map];rfl
 have HQ:=Aa (Fq.eq_1 (LR.map Prod.fst) vG);rw[hmn,uP]at HQ;have hlr:=h.lr;have HP:=Aa (WG w vR (LR.map rN) h.shapedR (by simp;omega) hsz);have HH:=Aa h;have hkey:=Nd vG (by unfold maxLen;omega);have HIN:=Aa (fun X (hX:vE w X) place M nM D hM hpm hp=>Us X S vR vO vI vU vN LR LO LI LU names place M nM D (h.below hX) hM hpm hnd xC hp);have cS:=Ac h.sc;have hlS:=Ab h.sc;have HND:=Aa hnd;obtain⟨aR,cR,hvR⟩:=An h.r.own;subst hvR;clear h hnd xC hsz hmn;generalize Fq (LR.map Prod.fst) vG=hd1 at*;by_cases hneg:Ae (LR.map rN) vG<0
 ·rw[uC hneg]at HQ
  have hm:=Nl vG (LR.map rN) (fun e=>by have:=LC _ _ e;omega);clear hneg;go_enter func39,ntmps39;go_wp2_with fail;refine HP.o.mono ?_;rintro _ w1 ⟨M,D,rfl,_,hown,hpm,b1⟩;have hhas:=hpm.hasP vG;rw[hm]at hhas;go_wp2_with (at_lookup;refine wpList_lookup_own_ok_int _ rfl _ _ 73 rfl 9 3 .i64 Ca underlying73 underlying3 (Gy _) M _ D rfl hown _ _ rfl hkey ?_;intro c hat hwc;rw[hhas]);go_ret;exact⟨_,rfl,⟨0,by rw[HQ.o];exact uA _ _ _ _⟩,by rw[HQ.o];simp,b1⟩
 rw[uB hneg]at HQ;obtain⟨j,r,hj,hrj,hid,hjl⟩:=Cl rN LR vG hneg;have hmem:vG∈LR.map rN:=List.mem_map.2 ⟨r,tO hrj,hid⟩;have hm:=(Fv vG _).2 hmem;rw[hj,uO]at HQ;have HJ:=Aa hj;clear hneg hid hrj hj;go_enter func39,ntmps39;go_wp2_with fail;refine HP.o.mono ?_;rintro _ w1 ⟨M,D,rfl,_,hown,hpm,b1⟩;have hhas:=hpm.hasP vG;rw[hm]at hhas;obtain⟨j',hj',hjv⟩:=hpm.val vG hmem;have ejj:j'=j:=by have:=LA _ vG j' HND.o hj';have:=HJ.o;omega
 subst ejj;have HB1:=Aa b1;have HO1:=Aa hown;have HPM:=Aa hpm;clear b1 hj' hpm HP hmem;go_wp2_with (at_lookup;refine wpList_lookup_own_ok_int _ rfl _ _ 73 rfl 9 3 .i64 Ca underlying73 underlying3 (Gy _) M _ D rfl hown _ _ rfl hkey ?_;intro c hat hwc;rw[hhas];rw[hjv]at hat;simp only[DataW.lit.injEq,Lit.int.injEq,true_and]at hat;subst hat);have hN:=tS w1 (.cells #[.string vG] 9);have hb:=bA (tM w1.heap.size w1) (.cells #[.string vG] 9);generalize w1.alloc (.cells #[.string vG] 9)=w2 at*;have HN:=Aa hN;have HB2:=Aa hb;have hlN:=Ab hN;refine(HIN.o w2 (bT HB1.o hb) j' M LR.length D (HO1.o.below hb|>fun q=>by simpa using q) HPM.o hjl).mono ?_;rintro _ w3 ⟨rfl,hbl,b3⟩;have hbsl:(CL (LR.map Prod.fst) (2*LR.length+1) ([j'],List.replicate LR.length false)).length=LR.length:=Ur _ LR.length _ rfl 0 _ (by simp);generalize CL (LR.map Prod.fst) (2*LR.length+1) ([j'],List.replicate LR.length false)=bs at*;have HBL:=Aa hbl;have HB3:=Aa b3;have hN3:=Aa ((b3.block _ hlN).trans HN.o);have hw12:w1.heap.size<w2.heap.size:=hlN;have HBA:=Aa (bT (bT HB1.o HB2.o) b3);have hs3:=b3.size;have hlb:=Ab hbl;have hs1:=HB1.o.size;have HBS:=Aa hbsl;clear hbl b3 hN hb HIN hown cS hkey hjv hhas hm;go_wp2_with fail;go_loopg [8,9,10,31] LR.length (fun m v8 v9 v10 v31 wr=>∃(i:Nat) (l:List vD),v31=.int .i64 i/\i<=LR.length/\LR.length-i<=m/\wr.ownsRow w1.heap.size 9 1 v8 l.length (Bi l)/\l.length<=i+1/\l=vG::MY (((LR.map rN).zip bs).take i)/\vE w wr/\wr.heap[w2.heap.size]?=some (.cells (Bp bs).toArray 4 (0,0)))
 case atStart=>exact⟨0,[vG],rfl,tU _,tL _,⟨rfl,Or.inr ⟨w1.heap.size,1,_,rfl,tL _,hN3.o,tL _,by decide,rfl,rfl⟩⟩,tL _,rfl,HBA.o,HBL.o⟩
 case round=>
  obtain⟨i,l,rfl,hil,hm,hown,hll,hl,hb,hbl⟩:=hrel;obtain⟨aL,cL,hvL⟩:=An hown;subst hvL;have HOW:=Aa hown;have HL:=Aa hl;have HBB:=Aa hb;have HBL2:=Aa hbl;have hszr:=hb.size;by_cases hlt:i<LR.length
  ·have hx:=tN hlt
   generalize LR[i]=x at hx;obtain⟨gR,cap,hv,hc⟩:=HH.o.r.cell (fun _=>rfl) i x hx;have e1:=(Value.slice.inj hv).1;subst e1;have x0:wr.cell? ⟨gR,i*2,none⟩=some (.string (rN x)):=Ah hb (show w.cell? ⟨gR,i*2,none⟩=some (.string x.1.name)from by simpa using hc 0 _ rfl);have hgR:gR<wr.heap.size:=tR wr _ x0;have cS:=fun k=>(hb.cell (p:=⟨S,k,none⟩) hlS).trans (Ac HH.o.sc k);have hlS2:S<wr.heap.size:=tV hlS hb.size;obtain⟨bi,hbi⟩:∃bi,bs[i]?=some bi:=⟨_,tN (by rw[HBS.o];exact hlt)⟩;have cb:wr.cell? ⟨w2.heap.size,i,none⟩=some (.bool bi):=by rw[Ac hbl i];simp[Bp,hbi]
   have hlb2:=Ab hbl;have HTK:=Aa (show MY (((LR.map rN).zip bs).take (i+1))=MY (((LR.map rN).zip bs).take i)++(if bi=true then [rN x]else [])from by
    rw[uG,show((LR.map rN).zip bs)[i]?=some (rN x,bi)from by rw[List.getElem?_zip_eq_some];exact⟨by rw[uD,hx];rfl,hbi⟩];unfold MY;rw[List.filter_append,uU];cases bi<;>rfl)
   clear hown hl hb hbl hc hv hbi hx;cases bi
   ·go_wp2_with fail
    go_roundg (LR.length-(i+1))
    case measure=>omega
    case rel=>exact⟨i+1,l,by go_num,by omega,tL _,HOW.o,by omega,by rw[HL.o,HTK.o];simp,HBB.o,HBL2.o⟩
   ·have hll2:l.length<=805:=by omega
    go_wp2_with (at_builtin;refine wpList_append_lies _ rfl _ _ 107 rfl w1.heap.size 9 i0 _ 1 16 underlying107 hi hz0 hz1 hz2 rfl (by decide) _ _ _ rfl (HOW.o.alloc _) ⟨wr.heap.size,0,none⟩ 1 1 [.string (rN x)] rfl rfl (cell_one_new _ _ _) (fun u hu=>by simp at hu;subst hu;rfl) (by decide) (by unfold maxLen;omega) (by omega) (by simp;omega) (wr.heap.size+1) (by simp) ?_;intro g' cap' x3 hown' hgrow hwh hgs;have HOWN:=Aa hown';have vZ:=Aa hgrow;clear hown' hgrow);have hgz:=vZ.o.size;simp at hgz;go_roundg (LR.length-(i+1))
    case measure=>omega
    case rel=>
     have hne:∀k,k<w.heap.size->Option.some k≠(Value.slice aL l.length cL).ownBlock:=fun k hk=>LW HOW.o (by omega);refine⟨i+1,l++[rN x],by go_num,by omega,tL _,by rw[NA,uE];exact HOWN.o,by simp;omega,?_,⟨vZ.o.os.trans HBB.o.os,vZ.o.tape.trans HBB.o.tape,vZ.o.output.trans HBB.o.output,by omega,fun k hk=>(vZ.o.block k (by simp;omega) (hne k hk)).trans ((AK _ _ _ (by omega)).trans (HBB.o.block k hk))⟩,?_⟩
     ·rw[HTK.o,HL.o];simp
     exact(vZ.o.block _ (by simp;omega) (Ep HOW.o HBL2.o (by decide))).trans ((AK _ _ _ hlb2).trans HBL2.o)
  ·have hie:i=LR.length:=by omega
   subst hie;have HE:=Aa (show hd1=l from by rw[HQ.o,HL.o,tW (by rw[List.length_zip,uP,HBS.o];omega)]);clear hown hb hbl hl;go_wp2_with fail;go_ret;exact⟨_,rfl,⟨w1.heap.size,by rw[HE.o];exact HOW.o⟩,by rw[HE.o];omega,HBB.o⟩
end
end Go.Proofs.YtadneapobijejaaGreatDoor
