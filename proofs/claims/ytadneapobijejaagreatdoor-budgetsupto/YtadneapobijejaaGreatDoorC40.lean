import Derived.Test.YtadneapobijejaaGreatDoorC36
import Derived.Test.YtadneapobijejaaGreatDoorC37
import Derived.Deep.RegionLaw
import Derived.Deep.DeepCutAuto
namespace Go.Proofs.YtadneapobijejaaGreatDoor
set_option maxHeartbeats 20000000
set_option maxRecDepth 100000
open Go.RowKit Tryz
open Go.Maps Tryz
open Go.ChangeMaps Tryz
theorem infoFl:(prog.info? 209).map (fun i=>(i.zero,i.size,i.bytes))=some (some (.agg #[.pointer none,.slice none 0 0]),2,32):=by kernel_rfl
theorem aW(L:List CX):L.map Hj=(L.map Prod.fst).map (fun f=>f.1.key):=by rw[List.map_map];rfl
theorem YO(x:Aq)(L:List CX)(c:(Nat×Nat)×Value)(h:x.key∉L.map Hj):CU x (L.map Prod.fst)=((L++[((x,[]),c)]).map Prod.fst).set L.length (x,[]++x.part.toList):=by
 rw[SY x _ (fun y hy e=>h (by rw[aW];exact List.mem_map.2 ⟨y,hy,e⟩))];rw[uU,List.set_append_right _ _ (by simp)];simp
theorem YN(x:Aq)(L:List CX)(j:Nat)(y:CX)(hj:L[j]?=some y)(hk:y.1.1.key=x.key)(hn:(L.map Hj).Nodup):CU x (L.map Prod.fst)=(L.map Prod.fst).set j (y.1.1,y.1.2++x.part.toList):=by
 refine Ta x _ j y.1 (by rw[uD,hj];rfl) hk (fun z hz e=>?_);obtain⟨i,hi,rfl⟩:=List.mem_iff_getElem.1 hz;rw[List.length_take,uP]at hi;have hjl:j<L.length:=(tP.1 hj).1;have h1:=(List.pairwise_iff_getElem.1 hn) i j (by simp;omega) (by simp;omega) (by omega);apply h1;rw[List.getElem_map,List.getElem_map];rw[tN hjl]at hj;rw[tY hj];show L[i].1.1.key=y.1.1.key;rw[hk,<-e,List.getElem_take,List.getElem_map]
section
variable {w w0:World} {B0 B1 Cb S gO ko Mb Sb:Nat} {pp:List Nat} {vF:Value} {L:List CX} {seen:List Bool}
theorem YQ(hb0:vE w0 w)(hB1:w0.heap.size<=B1)(hBw:B1<=w.heap.size)(h:CO w w0 B0 B1 Cb S gO ko Mb Sb pp vF L seen){g o:Nat}{x:Aq}(hs:ET w0 B0 pp g o x)(hk:x.key.size<=4000)(hwt:wt (L.map Prod.fst)<=10000000):Calls prog 180 #[.pointer (some ⟨Cb,0,none⟩),.pointer (some ⟨g,o,none⟩)] w fun e w'=>e=.returned (.tuple #[])/\Below B1 w w'/\∃vF' L',CO w' w0 B0 B1 Cb S gO ko Mb Sb pp vF' L' seen/\L'.map Prod.fst=CU x (L.map Prod.fst):=by
 obtain⟨iF,hiF,zF0,zF1,zF2⟩:=info_parts infoFl;obtain⟨iP,hiP,zP0,zP1,zP2⟩:=info_parts infoPt;obtain⟨D,hown,hpm⟩:=h.m;obtain⟨aF,cF,hvF⟩:=An h.f;subst hvF;have hLl:L.length<=10000000:=by have:=YC (L.map Prod.fst);rw[uP]at this;omega
 obtain⟨aA,cA,aC,cC,hc,hok⟩:=(hs.below hb0).ex;have x1:w.cell? ⟨g,o+1,none⟩=some (.string x.key):=hc 1 _ rfl;have x5:w.cell? ⟨g,o+5,none⟩=some (AM pp x.part):=hc 5 _ rfl;have X5:=Aa x5;have lg:=tR w _ x1;have hglt:g<w0.heap.size:=by
  obtain⟨_,_,_,_,hc0,_⟩:=hs.ex;exact tR w0 _ (hc0 1 _ rfl)
 have cC:=Ac h.b;have lC:=Ab h.b;obtain⟨c0,hrun,hat⟩:=jU hown.drew x.key (by unfold maxLen;omega);have hhas:=hpm.hasP x.key;have HOK:=Aa hok.p;have HPM:=Aa hpm;have HOWN:=Aa hown;have HH:=Aa h;have HWT:=Aa hwt;have HS:=Aa hs;rw[hhas]at hrun;have HAT:=Aa hat;generalize hmb:AS x.key (L.map Hj)=mb at*;have HMB:=Aa hmb;clear h hpm hown hc hok hwt hs hhas hat hmb x5;go_enter func180,ntmps180;go_wp2_with fail;go_region;all_goals(
  clear hrun;have hbd:=(tM w.heap.size w).drew;have HBD:=Aa hbd;have HCW:=Aa (HH.o.below hbd);have cW:=Ac HCW.o.b;have lW:=Ab HCW.o.b;have x1W:=Ah hbd x1;have lgW:=tR _ _ x1W;have X5W:=Aa (Ah hbd X5.o);have hBW:B1<=w.drew.heap.size:=tQ hBw hbd.size;have HOW:=Aa (HOWN.o.below hbd);clear cC lC x1 lg hbd HH X5 HOWN;generalize w.drew=W at*
  go_upto_if 19 with fail
  go_cut [4] (fun v4 wc=>∃(j gF cF:Nat) (L1:List CX) (y:CX),v4=.int .i64 j/\Below B1 W wc/\CO wc w0 B0 B1 Cb S gO ko Mb Sb pp (.slice (some ⟨gF,0,none⟩) L1.length cF) L1 seen/\L1[j]?=some y/\L1.length<=10000001/\y.1.2.length<=10000000/\CU x (L.map Prod.fst)=(L1.map Prod.fst).set j (y.1.1,y.1.2++x.part.toList))
  case first=>
   cases mb
   ·have hni:x.key∉L.map Hj:=fun e=>by have:=HMB.o;rw[(Fv x.key _).2 e]at this;cases this
    have HNI:=Aa hni;have hwf:(Lit.int .i64 (L.length:Int)).wf=true:=by simp[Lit.wf,IntKind.min,IntKind.max,IntKind.bits,IntKind.signed];omega
    obtain⟨W4,hrun,wG,vT⟩:=HOW.o.drew.update Ca underlying73 (by unfold maxLen;omega) (Nd x.key (by unfold maxLen;omega)) (plainElem_int (H:=Unit) underlying3 hwf);have HPS:=Aa (HPM.o.snoc x.key);rw[uP]at HPS;have HO4:=Aa wG;have HG4:=Aa vT;have hCd:=HCW.o.below (tM W.heap.size W).drew;have HCD:=Aa hCd;have hMC:Cb≠Mb:=Kc HOW.o HCW.o.b;have hb4:=(vT.block Cb (Ab hCd.b) (fun e=>hMC (tY e))).trans hCd.b;have HB4:=Aa hb4;have c4:=Ac hb4;have l4:=Ab hb4;have hz4:=vT.size;have HF4:=Aa (show W4.ownsRow B1 209 2 (.slice aF L.length cF) L.length (L.flatMap JS)from Ir hCd.f (fun k cur _ hk=>(vT.block k (Ab hk) (fun e=>Kc HOW.o (k:=k) hk (tY e))).trans hk));have hBW4:B1<=W4.heap.size:=tQ hBW hz4;have hneC:Option.some Cb≠(Value.slice aF L.length cF).ownBlock:=Ep HF4.o hb4 (by decide);clear hni wG vT hCd hb4;go_wp2_with fail;go_region;all_goals(
     clear hrun cW;go_wp2_with (at_builtin;refine wpList_append_lies _ rfl _ _ 206 rfl B1 209 iF _ 2 32 underlying206 hiF zF0 zF1 zF2 rfl (by decide) _ _ _ rfl (HF4.o.alloc _) ⟨W4.heap.size,0,none⟩ 1 1 [.pointer (some ⟨g,o,none⟩),.slice none 0 0] rfl rfl (Cs _ _ _ _ (by simp)) (OX rfl rfl) (by decide) (by unfold maxLen;omega) (by omega) (by simp;omega) (W4.heap.size+1) (by simp) ?_;intro g' cap' x3 hown' hgrow hwh hgs;have hX5:=(hgrow.block Cb (by simp;omega) hneC).trans ((AK _ _ _ l4).trans HB4.o);have hc5:=Ac hX5;have hf5:=Am hX5;have hl5:=Ab hX5;have HOWN5:=Aa hown';have vZ:=Aa hgrow;clear hX5 hown' hgrow);have HP:=Aa (HCD.o.push (tQ hBW (tM W.heap.size W).drew.size) HS.o HNI.o HG4.o HO4.o HPS.o vZ.o HOWN5.o);clear hwh hgs;go_meet;refine⟨L.length,g',cap',L++[((x,[]),(g,o),.slice none 0 0)],((x,[]),(g,o),.slice none 0 0),rfl,?_,?_,by simp,by simp;omega,by simp,YO x L _ HNI.o⟩
     ·exact((tM B1 W).drew).trans HP.o.2
     ·rw[uE]
      exact HP.o.1)
   ·have hmem:x.key∈L.map Hj:=(Fv x.key _).1 HMB.o
    obtain⟨j,hj,hjv⟩:=HPM.o.val x.key hmem;rw[uD]at hj;obtain⟨y,hy,hky⟩:=uY.1 hj;have hc0:c0=j:=by
     have:=HAT.o;rw[hjv]at this;simp only[DataW.lit.injEq,Lit.int.injEq,true_and]at this;exact this.symm
    have HC0:=Aa hc0;obtain⟨gF,cF',e, -⟩:=HCW.o.fld hy;have ea:=(Value.slice.inj e).1;subst ea;have HY:=Aa hy;have HKY:=Aa hky;have HW2:=Aa (Sz (L.map Prod.fst) y.1 (List.mem_map.2 ⟨y,tO hy,rfl⟩));clear hj hjv hy hky hc0 hmem e;go_wp2_with fail;go_meet;exact⟨j,gF,cF,L,y,by rw[HC0.o],tM _ _,HCW.o,HY.o,by omega,by have:=HW2.o;have:=HWT.o;omega,YN x L j y HY.o HKY.o HCW.o.nd⟩
  case rest=>
   obtain⟨j,gF,cF1,L1,y,rfl,hb1,hC1,hj,hl1,hy2,hadd⟩:=hcut;have yG:=Aa hadd;have HC1:=Aa hC1;have HJ:=Aa hj;have HB1:=Aa hb1;have hgw:g<W.heap.size:=lgW;have hgB:g<B1:=tV hglt hB1;have x5c:wc.cell? ⟨g,o+5,none⟩=some (AM pp x.part):=(hb1.cell (p:=⟨g,o+5,none⟩) hgB).trans X5W.o;have X5C:=Aa x5c;have lgc:=tR wc _ x5c;have hbz:=hb1.size;clear hadd hb1 X5W hj x5c cW x1W;cases ep:x.part with
   |none=>
    have x5:wc.cell? ⟨g,o+5,none⟩=some (.pointer none):=by have:=X5C.o;rw[ep]at this;exact this
    have HE:=Aa (show CU x (L.map Prod.fst)=L1.map Prod.fst from by
     rw[yG.o,ep];simp only[Option.toList_none,List.append_nil];refine List.ext_getElem? (fun n=>?_);rw[List.getElem?_set];split
     ·rename_i e
      subst e;rw[uD,HJ.o];split
      ·rfl
      ·rename_i q
       exact absurd (by rw[uP];exact(tP.1 HJ.o).1) q
     ·rfl)
    clear ep hC1 yG;go_wp2_with fail;go_end0;exact⟨rfl,(HBD.o.mono hBw).trans HB1.o,_,L1,HC1.o,HE.o.symm⟩
   |some i=>
    obtain⟨k,hk⟩:∃k,pp[i]?=some k:=⟨_,tN (HOK.o i ep)⟩;have x5:wc.cell? ⟨g,o+5,none⟩=some (.pointer (some ⟨k,0,none⟩)):=by have:=X5C.o;rw[ep]at this;rw[this];simp[AM,hk]
    have HE:=Aa (show CU x (L.map Prod.fst)=(L1.map Prod.fst).set j (y.1.1,y.1.2++[i])from by rw[yG.o,ep];rfl);obtain⟨gF',cF',e,lF, -,f1⟩:=hC1.fld HJ.o;have ea:=(Addr.mk.inj (tY (Value.slice.inj e).1)).1;subst ea;have hjl:j<L1.length:=(tP.1 HJ.o).1;have hjI:(j:Int)<L1.length:=by omega
    have HK:=Aa hk;obtain⟨aY,cY,hvy⟩:=An (hC1.own j y HJ.o);have HOY:=Aa (hC1.own j y HJ.o);rw[hvy]at f1 HOY;have HVY:=Aa hvy;have c1:=Ac hC1.b;have l1:=Ab hC1.b;obtain⟨curF,hcF⟩:=Fx hC1.f gF rfl;have HCF:=Aa hcF;have fF:=Am hcF (j*2+1);have hneF:Option.some gF≠(Value.slice aY y.1.2.length cY).ownBlock:=Ep HOY.o hcF (by decide);have hneC:Option.some Cb≠(Value.slice aY y.1.2.length cY).ownBlock:=Ep HOY.o hC1.b (by decide);have hneG:Option.some g≠(Value.slice aY y.1.2.length cY).ownBlock:=LW HOY.o hgB;have HCB:=Aa hC1.b;clear ep hC1 yG hk e hvy hcF X5C;generalize hyl:y.1.2.length=yl at*;have HYL:=Aa hyl;clear hyl;go_wp2_with fail;go_region_law (first|(refine step_append_lies _ (by rfl) _ _ _ (by rfl) B1 89 iP _ 1 8 underlying78 hiP zP0 zP1 zP2 rfl (by decide) _ _ _ (by rfl) ((HOY.o.alloc _).drew) ⟨wc.heap.size,0,none⟩ 1 1 [.pointer (some ⟨k,0,none⟩)] (by rfl) (by rfl) (Cs _ _ _ _ (by simp)) (fun u hu=>by simp at hu;subst hu;rfl) (by decide) (by unfold maxLen;omega) (by omega) (by simp;omega) (wc.heap.size+1) (by simp) ?_;intro g5 cap5 w5 vK hgrow hat hg5;have q1:=(hgrow.block Cb (by simp;omega) hneC).trans ((((tM wc.heap.size wc).alloc (tL _) _).drew.block Cb l1).trans HCB.o);have q2:=(hgrow.block gF (by simp;omega) hneF).trans ((((tM wc.heap.size wc).alloc (tL _) _).drew.block gF lF).trans HCF.o);have d1:=Ac q1;have e1:=Ab q1;have d2:=(World.cell?_of_block (a:=⟨gF,j*2+1,none⟩) (q2.trans HCF.o.symm)).trans f1;have e2:=Ab q2;have d3:=Am q2 (j*2+1);have d4:=(hgrow.cell_far ⟨g,o+5,none⟩ (by simp;omega) (fun e=>hneG e)).trans ((((tM wc.heap.size wc).alloc (tL _) _).drew.cell (p:=⟨g,o+5,none⟩) (show g<wc.heap.size from lgc)).trans x5)));all_goals(
     have HP:=Aa (HC1.o.part (v':=.slice (some ⟨g5,0,none⟩) (yl+1) cap5) (ob:=.cells #[.pointer (some ⟨k,0,none⟩)] 89) (tQ hBW hbz) HJ.o HK.o (by rw[HVY.o];exact⟨hgrow.os,hgrow.tape,hgrow.output,hgrow.size,hgrow.block⟩) (by rw[HYL.o];exact vK) (fun k' hk'=>by
      rw[HVY.o];have e:g5=k':=tY hk';subst e;rcases hat with q|q
      ·exact .inl q
      ·exact .inr (by omega)))
     clear hgrow vK hat hg5 q1 q2 d1 d2 d3 d4 e1 e2;go_end0;exact⟨rfl,((HBD.o.mono hBw).trans HB1.o).trans HP.o.2,_,_,HP.o.1,by rw[HE.o,List.map_set]⟩))
end
end Go.Proofs.YtadneapobijejaaGreatDoor
