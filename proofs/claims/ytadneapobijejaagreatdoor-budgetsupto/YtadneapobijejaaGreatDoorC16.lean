import Derived.Test.YtadneapobijejaaGreatDoorC15
import Derived.Test.YtadneapobijejaaGreatDoorC07
import Derived.Deep.DeepCutAuto
namespace Go.Proofs.YtadneapobijejaaGreatDoor
set_option maxHeartbeats 20000000
set_option maxRecDepth 100000
open Go.RowKit Tryz
attribute [local go_sem ↓] Go.wp_at_zero Go.wp_at_succ
theorem infoPP:(prog.info? 89).map (fun i=>(i.zero,i.size,i.bytes))=some (some (.pointer none),1,8):=by kernel_rfl
theorem infoSel:(prog.info? 177).map (fun i=>(i.zero,i.size,i.bytes))=some (some (.agg #[.int .i64 0,.string ⟨#[]⟩,.string ⟨#[]⟩,.slice none 0 0,.slice none 0 0,.pointer none]),6,96):=by kernel_rfl
section
variable {w:World} {B0 p b q G d:Nat} {vO vF:Value} {ps:List Nat} {s:St}
theorem pE(sel:Nat->St->Aq×List Ai×St)(hlen:Mu sel)(typ:vD)(h:QS w B0 p b q G s d vO vF ps)(hd:d<=100000)(hn:ps.length+ln s<=100000)
 (hsel:∀(W:World) (ps':List Nat) (s':St),ln s'<=ln (nK (Bz (d+1) s) 14)->ps'.length+ln s'<=100001->QS W B0 p b q G s' (d+1) vO vF ps'->Calls prog 115 #[.pointer (some ⟨p,0,none⟩)] W fun e w'=>Hc W w' B0 p b q G (d+1) vO vF ps' (sel ps'.length s') e):
 Calls prog 64 #[.pointer (some ⟨p,0,none⟩),.string typ] w fun e w'=>∃new k,e=.returned (pV k)/\(ps++new)[ps.length]?=some k/\new.length=(FB sel ps.length d typ s).1.length/\QS w' B0 p b q G (FB sel ps.length d typ s).2 d vO vF (ps++new)/\FT B0 kQ w w'/\Bh w' w.heap.size (ps++new) ps.length (FB sel ps.length d typ s).1:=by
 have wU:=Aa hsel;have xS:=Aa hlen;clear hsel hlen;have hln0:=tQ (Ft (Bz (d+1) s) 14) (UY (d+1) s);have hln8:ln s<=801:=h.rd.len;have HQ:=Aa (FB.eq_1 sel ps.length d typ s);generalize FB sel ps.length d typ s=FF at*;obtain⟨i0,hi,hz0,hz1,hz2⟩:=info_parts infoPP;have HS:=Aa h;have hB:=h.lt;have hnp:ps.length<=100000:=by omega
 obtain⟨vP,hqy,hown⟩:=h.qy;obtain⟨aP,cP,rfl⟩:=An hown;have HQY:=Aa hqy;have hpa:=Ac h.pa;have hqc:=Ac hqy;have fq:=Am hqy;have fp:=Am h.pa;have hpl:=Ab h.pa;have hql:=Ab hqy;have HPA:=Aa h.pa;have HO:=Aa hown;clear h hqy hown;go_enter func64,ntmps64;go_upto_region 2 with fail;have hK0:(w.alloc (.cells #[.string typ,.int .i64 ps.length,.slice none 0 0] 171)).heap[w.heap.size]?=some (.cells #[.string typ,.int .i64 ps.length,.slice none 0 0] 171 (0,0)):=tS w _;have HK0:=Aa hK0;have HS0:=Aa (HS.o.al (.cells #[.string typ,.int .i64 ps.length,.slice none 0 0] 171));have HF0:=Aa ((FT.refl B0 kQ w).al hB (.cells #[.string typ,.int .i64 ps.length,.slice none 0 0] 171));have hO0:=HO.o.alloc (.cells #[.string typ,.int .i64 ps.length,.slice none 0 0] 171);have hp0:=(AK w (.cells #[.string typ,.int .i64 ps.length,.slice none 0 0] 171) _ hpl).trans HPA.o;have hq0:=(AK w (.cells #[.string typ,.int .i64 ps.length,.slice none 0 0] 171) _ hql).trans HQY.o;clear hK0 hpa hqc fq fp HQY HPA HO;generalize w.alloc (.cells #[.string typ,.int .i64 ps.length,.slice none 0 0] 171)=X0 at*;have xN:=Ab hp0;have hql0:=Ab hq0;have dp:=Ac hp0;have dq:=Ac hq0;have fq:=Am hq0;have hloq:=Bv hO0 hq0 (by decide);have wV:=Bv hO0 hp0 (by decide);have npq:¬q=p:=fun e=>by rw[e,hp0]at hq0;cases hq0
 have npq':¬p=q:=fun e=>npq e.symm;have hlK:=Ab HK0.o;have hBX:B0<=X0.heap.size:=by omega
 go_cut [] (fun wc=>QS wc B0 p b q G s d vO vF (ps++[w.heap.size])/\FT B0 kQ w wc/\wc.heap[w.heap.size]?=some (.cells #[.string typ,.int .i64 ps.length,.slice none 0 0] 171 (0,0)))
 case first=>
  go_region_law (first|(refine step_append_lies _ (by rfl) _ _ _ (by rfl) B0 89 i0 _ 1 8 underlying78 hi hz0 hz1 hz2 rfl (by decide) _ _ _ (by rfl) ((hO0.alloc _).drew) ⟨X0.heap.size,0,none⟩ 1 1 [.pointer (some ⟨w.heap.size,0,none⟩)] (by rfl) (by rfl) (Cs _ _ _ _ (by simp)) (fun u hu=>by simp at hu;subst hu;rfl) (by decide) (by unfold maxLen;omega) (by omega) (by simp;omega) (X0.heap.size+1) (by simp) ?_;intro g cap w5 vK hgrow hat hg5;have e5:w5.cell? ⟨q,2,none⟩=some (.slice aP ps.length cP):=(hgrow.cell_far ⟨q,2,none⟩ (by simp;omega) (fun e=>hloq e.symm)).trans ((((tM X0.heap.size X0).alloc (tL _) _).drew.cell (show q<X0.heap.size from hql0)).trans (dq 2));have p5:w5.cell? ⟨p,1,none⟩=some (.pointer (some ⟨q,0,none⟩)):=(hgrow.cell_far ⟨p,1,none⟩ (by simp;omega) (fun e=>wV e.symm)).trans ((((tM X0.heap.size X0).alloc (tL _) _).drew.cell (show p<X0.heap.size by omega)).trans (dp 1));have f5:w5.frozen? ⟨q,2,none⟩=false:=(hgrow.frozen_far ⟨q,2,none⟩ (by simp;omega) (fun e=>hloq e.symm)).trans ((((tM X0.heap.size X0).alloc (tL _) _).drew.frozen (show q<X0.heap.size from hql0)).trans (fq 2))));all_goals(
   have V5:=AA.grown (B:=0) (K:=[155,103,100,80,171]) hgrow ((hO0.alloc _).drew) (by decide);have V0:AA 0 [155,103,100,80,171] X0 w5:=(((AA.alloc _).trans .drew).trans V5);have g5q:=V0.2 _ _ _ _ (tU _) hq0 (by decide);have V6:AA 0 [155,103,100,171] w5 (w5.setCell ⟨q,2,none⟩ (.slice (some ⟨g,0,none⟩) (ps.length+1) cap)):=AA.set g5q (by decide) _ _;have HX:=Aa (show QS (w5.setCell ⟨q,2,none⟩ (.slice (some ⟨g,0,none⟩) (ps.length+1) cap)) B0 p b q G s d vO vF (ps++[w.heap.size])from
    ⟨(HS0.o.rd.typ V0 (by decide) (by decide)).typ V6 (by decide) (by decide),V6.2 _ _ _ _ (tU _) (V0.2 _ _ _ _ (tU _) hp0 (by decide)) (by decide),⟨_,AI g5q 2 _,by rw[uU,uE];exact Di vK (Bv vK g5q (by decide)) _ _⟩,HS0.o.lb,HS0.o.lp,HS0.o.lq⟩)
   have HY:=Aa (show FT B0 kQ w (w5.setCell ⟨q,2,none⟩ (.slice (some ⟨g,0,none⟩) (ps.length+1) cap))from
    (((HF0.o.al hB _).dr).gr hgrow (fun k hk=>.inl ⟨(hO0.lt k hk).1,by obtain⟨cur,hc⟩:=Fx ((hO0.alloc _).drew) k hk;exact⟨_,_,_,hc,by decide⟩⟩) hB).st g5q (by decide) HS0.o.lq 2 _)
   have HZ:=Aa (V6.2 _ _ _ _ (tU _) (V0.2 _ _ _ _ (tU _) HK0.o (by decide)) (by decide));clear V5 V0 g5q V6 vK hgrow;go_wp2_with fail;go_meet;exact⟨HX.o,HY.o,HZ.o⟩)
 case rest=>
 obtain⟨qs1,ft1,hk1⟩:=hcut;have QS1:=Aa qs1;have FT1:=Aa ft1;have HK1:=Aa hk1;have hp1:=qs1.pa;have cp1:=Ac hp1;have fp1:=Am hp1;have hlp1:=Ab hp1;have hlk1:=Ab hk1;have nkp:¬w.heap.size=p:=by omega
 clear qs1 ft1 hk1 hp1 HS0 HF0 HK0 hO0 hp0 hq0 xN hql0 dp dq fq hloq wV hBX hlK
 go_upto_if 44 with fail
 have QS2:=Aa (QS1.o.setd (d+1));have FT2:=Aa (FT1.o.st QS1.o.pa (by decide) QS1.o.lp 2 (.int .i64 ((d+1:Nat):Int)));have HK2:=Aa (DT (i:=2) HK1.o nkp (.int .i64 ((d+1:Nat):Int)));have yT:((d:Int)+1)=((d+1:Nat):Int):=by omega
 rw[yT];generalize wc.setCell ⟨p,2,none⟩ (.int .i64 ((d+1:Nat):Int))=X3 at*;have HC:=Aa yT;have HD:=Aa (Bz.eq_1 (d+1) s);clear QS1 FT1 HK1 cp1 fp1 hlp1 hlk1 yT;have hp3:=QS2.o.pa;have cp3:=Ac hp3;have hlp3:=Ab hp3;clear hp3;go_cut [] (fun wd=>QS wd B0 p b q G (Bz (d+1) s) (d+1) vO vF (ps++[w.heap.size])/\FT B0 kQ w wd/\wd.heap[w.heap.size]?=some (.cells #[.string typ,.int .i64 ps.length,.slice none 0 0] 171 (0,0)))
 case first=>
  generalize Bz (d+1) s=s0 at*;by_cases e10:10<d+1
  ·rw[uC e10]at HD
   have T:decide ((10:Int)<((d+1:Nat):Int))=true:=by simp;omega
   have HF:=Aa (FO X3 b G s QS2.o.rd);go_wp2_with fail;refine HF.o.mono ?_;rintro _ w4 ⟨rfl,h4,k4⟩;go_wp2_with fail;go_meet;rw[HD.o];exact⟨QS2.o.call h4 k4,FT2.o.trans (QS2.o.ft k4 QS2.o.lt),(QS2.o.ft k4 QS2.o.lt).at HK2.o (by decide)⟩
  ·rw[uB e10]at HD
   have T:decide ((10:Int)<((d+1:Nat):Int))=false:=by simp;omega
   go_wp2_with fail;go_meet;rw[HD.o];exact⟨QS2.o,FT2.o,HK2.o⟩
 case rest=>
 obtain⟨qs3,ft3,hk3⟩:=hcut;have HN:=Aa (fun W s' (hW:PS W b G s')=>Cc W b G s' 14 hW);have HN0:=Aa (HN.o wc (Bz (d+1) s) qs3.rd);have hp4:=qs3.pa;have cp4:=Ac hp4;have hlp4:=Ab hp4;have QS3:=Aa qs3;have FT3:=Aa ft3;have HK3:=Aa hk3;clear qs3 ft3 hk3 hp4 QS2 FT2 HK2 cp3 hlp3 HD HN;have HS1:=Aa (show mustT (Bz (d+1) s) (Ad (Bz (d+1) s) 14)=nK (Bz (d+1) s) 14 from rfl);rw[HS1.o]at HN0;generalize nK (Bz (d+1) s) 14=s1 at*;generalize Bz (d+1) s=s0 at*;generalize (Ay s0 14).k=nk at*;generalize (Ay s0 14).n=nn at*;generalize (Ay s0 14).s=ny at*;go_wp2_with fail;refine HN0.o.mono ?_;rintro _ w4 ⟨rfl,h4,k4⟩;have I4:=Aa (show DR w w4 B0 p b q G (d+1) vO vF typ (ps++[w.heap.size]) ps.length w.heap.size [] [] [] (.slice none 0 0) s1 from
  ⟨by rw[List.append_nil];exact QS3.o.call h4 k4,FT3.o.trans (QS3.o.ft k4 QS3.o.lt),(QS3.o.ft k4 QS3.o.lt).at HK3.o (by decide),uA _ _ _ _,(fun x hx=>by cases hx),rfl,(fun j P hj=>by simp at hj),rfl⟩)
 clear h4 k4 HN0 QS3 FT3 HK3 cp4 hlp4 HS1;obtain⟨iS,hiS,zS0,zS1,zS2⟩:=info_parts infoSel;obtain⟨L0,hL0⟩:∃L0:List SX,L0=[]:=⟨_,rfl⟩;obtain⟨Ps0,hP0⟩:∃Ps0:List Ai,Ps0=[]:=⟨_,rfl⟩;obtain⟨new0,hn0⟩:∃new0:List Nat,new0=[]:=⟨_,rfl⟩;obtain⟨v0,i5⟩:∃v0,DR w w4 B0 p b q G (d+1) vO vF typ (ps++[w.heap.size]) ps.length w.heap.size L0 Ps0 new0 v0 s1:=by rw[hL0,hP0,hn0];exact⟨_,I4.o⟩
 obtain⟨a0,c0,rfl⟩:=An i5.own;have HE0:=Aa (uV hL0 (uV hP0 hn0));have hL0l:L0.length<=0:=by rw[hL0];simp
 have hps1:(ps++[w.heap.size]++new0).length=ps.length+1:=by rw[hn0];simp
 have HS0:=Aa (fun W=>wU.o W (ps++[w.heap.size]++new0) s1 (tL _) (by rw[hps1];omega));rw[hps1]at HS0;have HL0:=Aa (xS.o (ps.length+1) s1);clear hL0 hP0 hn0 I4 hps1;have hN4:=i5.blk;have cN4:=Ac hN4;have fN4:=Am hN4;have lN4:=Ab hN4;have hp4:=i5.qs.pa;have cp4:=Ac hp4;have lp4:=Ab hp4;have I5:=Aa i5;clear hN4 hp4 i5;generalize hr:sel (ps.length+1) s1=r at*;obtain⟨⟨kd,ky,nme,args,conds,pt⟩,Ps',s2⟩:=r;have HR:=Aa hr;simp only[]at HL0;clear hr;have hwl:w.heap.size<w4.heap.size:=lN4;have hwB:w.heap.size<=w4.heap.size:=Nat.le_of_lt lN4;go_upto_region 7 with fail;go_cut [] (fun wc=>∃(L:List SX) (Ps:List Ai) (new:List Nat) (v:Value),DR w wc B0 p b q G (d+1) vO vF typ (ps++[w.heap.size]) ps.length w.heap.size L Ps new v s2/\L.map Prod.fst=[⟨kd,ky,nme,args,conds,pt⟩]/\Ps=Ps')
 case first=>
  go_region_law (first
   |(refine step_append_lies _ (by rfl) _ _ _ (by rfl) w.heap.size 177 iS _ 6 96 underlying169 hiS zS0 zS1 zS2 rfl (by decide) _ _ _ (by rfl) (hO6.alloc _) ⟨w6.heap.size,0,none⟩ 1 1 [.int .i64 kd,.string ky,.string nme,.slice a1 args.length c1,.slice a2 conds.length c2,.pointer fp] (by rfl) (by rfl) (Cs _ _ _ _ (by simp)) (OY rfl rfl rfl rfl rfl rfl) (by decide) (by unfold maxLen;omega) (by omega) (by simp;omega) (w6.heap.size+1) (by simp) ?_;intro g cap w7 vJ hgrow hat hg7;have g7:=Jp hO6 hgrow hN6 (by decide);have e7:=Ac g7;have f7:=Am g7;have l7:=Ab g7)
   |(go_simp;go_at_call 115;refine(HS0.o _ ?_).mono ?_;(first|exact I5.o.qs.dr|exact I5.o.qs);intro e6 w6 h6;obtain⟨new',a1,c1,a2,c2,fp,rfl,hpf,hnl,hok,qs6,wJ,pp6⟩:=h6.shape;have ft6:FT B0 kQ w4 w6:=(by first|exact wJ|exact(FT.refl B0 kQ w4).dr.trans wJ);have hN6:=ft6.at I5.o.blk (by decide);have c6:=Ac hN6;have l6:=Ab hN6;have hO6:=I5.o.own6 ft6;have z6:=qs6.pa;have y6:=Ac z6;have x6:=Ab z6;clear z6))
  all_goals(
   have HX:=Aa (I5.o.step (r:=(⟨kd,ky,nme,args,conds,pt⟩,Ps',s2)) hnl hok qs6 ft6 pp6 (by rw[show sL (ps++[w.heap.size]++new0++new') ((⟨kd,ky,nme,args,conds,pt⟩:Aq),.slice a1 args.length c1,.slice a2 conds.length c2)=[.int .i64 kd,.string ky,.string nme,.slice a1 args.length c1,.slice a2 conds.length c2,.pointer fp]from by unfold sL;rw[hpf]];exact vJ) hgrow hat g7);clear hgrow vJ hok qs6 ft6 wJ pp6 hN6 hO6 g7 h6;go_wp2_with fail;go_meet;refine⟨_,_,_,_,HX.o,?_,?_⟩
   ·rw[HE0.o.1];rfl
   ·rw[HE0.o.2.1];rfl)
 case rest=>
 obtain⟨L1,Ps1,new1,v1,i1,hm1,rfl⟩:=hcut;have hL1:L1.length=1:=by have:=congrArg List.length hm1;simpa using this
 obtain⟨RES,vH⟩:∃RES:List Aq×List Ai×St,Hi (RES=((⟨kd,ky,nme,args,conds,pt⟩:Aq)::(Ch sel 801 (ps.length+1+Ps1.length) s2).1,Ps1++(Ch sel 801 (ps.length+1+Ps1.length) s2).2.1,(Ch sel 801 (ps.length+1+Ps1.length) s2).2.2)):=⟨_,Aa rfl⟩;have HQ2:=Aa (show FF=(⟨typ,RES.1⟩::RES.2.1,nK RES.2.2 15)from by rw[HQ.o,vH.o]);have I1:=Aa i1;have hL0a:=HL0.o.1;have hl2:ln s2<=801:=i1.qs.rd.len;have hL1':L1.length<=1:=by omega
 have HM1:=Aa hm1;clear HQ hm1 i1 HR I5 HS0 cN4 fN4 lN4 cp4 lp4 hL0l HE0 hL1 HL0
 go_upto_block 0 with fail
 go_cut [] (fun wc=>∃(L:List SX) (Ps:List Ai) (new:List Nat) (v:Value) (s3:St),DR w wc B0 p b q G (d+1) vO vF typ (ps++[w.heap.size]) ps.length w.heap.size L Ps new v s3/\L.length<=803/\RES=(L.map Prod.fst,Ps,s3))
 case first=>
  go_wp2_with fail;go_loopg [] (ln s2) (fun m wr=>∃(L:List SX) (Ps:List Ai) (new:List Nat) (v:Value) (s':St) (f:Nat),ln s'<=m/\ln s'<=f/\ln s'<=ln s1/\DR w wr B0 p b q G (d+1) vO vF typ (ps++[w.heap.size]) ps.length w.heap.size L Ps new v s'/\L.length+ln s'<=803/\ps.length+1+Ps.length+ln s'<=100001/\RES=(L.map Prod.fst++(Ch sel f (ps.length+1+Ps.length) s').1,Ps++(Ch sel f (ps.length+1+Ps.length) s').2.1,(Ch sel f (ps.length+1+Ps.length) s').2.2))
  case atStart=>exact⟨L1,Ps1,new1,v1,s2,801,tL _,hl2,by omega,I1.o,by omega,by omega,by rw[vH.o,HM1.o];rfl⟩
  case round=>
   obtain⟨L,Ps,new,v,s',f,hlk,hlf,hls1,ir,hLl,hPl,hrel⟩:=hrel;obtain⟨a0,c0,rfl⟩:=An ir.own;have HM:=Aa hrel;have IR:=Aa ir;have hp4:=ir.qs.pa;have cp4:=Ac hp4;have lp4:=Ab hp4;have hAE:=Aa (Jq wr b G s' ir.qs.rd);have hSE:=Aa (GS wr b G s' 15 ir.qs.rd);have hnl:=ir.nl;have hps1:(ps++[w.heap.size]++new).length=ps.length+1+Ps.length:=by simp[hnl];omega
   clear ir hp4 hrel I1;cases eA:Cf s'
   rotate_left
   ·rw[eA]at hAE
    have HE:=Aa (show RES=(L.map Prod.fst,Ps,s')from by rw[HM.o,RR sel f _ s' (by rw[eA];rfl)];simp);clear hSE HM eA;go_wp2_with fail;refine hAE.o.mono ?_;rintro _ w5 ⟨rfl,hw5⟩;have hw5:=hw5.symm;subst hw5;go_wp2_with fail;go_meet;exact⟨L,Ps,new,_,s',IR.o,by omega,HE.o⟩
   ·rw[eA]at hAE
    cases e15:Ad s' 15
    rotate_left
    ·rw[e15]at hSE
     have HE:=Aa (show RES=(L.map Prod.fst,Ps,s')from by rw[HM.o,RR sel f _ s' (by rw[eA,e15];rfl)];simp);clear HM eA e15;go_wp2_with fail;refine hAE.o.mono ?_;rintro _ w5 ⟨rfl,hw5⟩;have hw5:=hw5.symm;subst hw5;go_wp2_with fail;refine hSE.o.mono ?_;rintro _ w6 ⟨rfl,b6⟩;go_wp2_with fail;go_meet;exact⟨L,Ps,new,_,s',IR.o.be b6,by omega,HE.o⟩
    ·rw[e15]at hSE
     have hlt3:=(xS.o (ps.length+1+Ps.length) s').2 eA;have hle3:=(xS.o (ps.length+1+Ps.length) s').1;obtain⟨f',rfl⟩:∃f',f=f'+1:=⟨f-1,by omega⟩;have HE:=Aa (show RES=(L.map Prod.fst++((sel (ps.length+1+Ps.length) s').1::(Ch sel f' (ps.length+1+Ps.length+(sel (ps.length+1+Ps.length) s').2.1.length) (sel (ps.length+1+Ps.length) s').2.2).1),Ps++((sel (ps.length+1+Ps.length) s').2.1++(Ch sel f' (ps.length+1+Ps.length+(sel (ps.length+1+Ps.length) s').2.1.length) (sel (ps.length+1+Ps.length) s').2.2).2.1),(Ch sel f' (ps.length+1+Ps.length+(sel (ps.length+1+Ps.length) s').2.1.length) (sel (ps.length+1+Ps.length) s').2.2).2.2)from by
      rw[HM.o,Ch,eA,e15];rfl)
     have HS9:=Aa (fun W=>wU.o W (ps++[w.heap.size]++new) s' hls1 (by rw[hps1];omega));rw[hps1]at HS9;clear HM eA e15 hnl;generalize sel (ps.length+1+Ps.length) s'=r at*;obtain⟨⟨kd,ky,nme,args,conds,pt⟩,Ps',s3⟩:=r;simp only[]at hlt3 hle3 HE;go_wp2_with fail;refine hAE.o.mono ?_;rintro _ w5 ⟨rfl,hw5⟩;have hw5:=hw5.symm;subst hw5;go_wp2_with fail;refine hSE.o.mono ?_;rintro _ w5 ⟨rfl,b6⟩;have i6:=IR.o.be b6;have hN4:=i6.blk;have cN4:=Ac hN4;have fN4:=Am hN4;have lN4:=Ab hN4;have hp4:=i6.qs.pa;have cp5:=Ac hp4;have lp5:=Ab hp4;have I6:=Aa i6;clear hN4 hp4 i6 b6 hSE hAE IR;go_wp2_with fail;go_region_law (first
      |(refine step_append_lies _ (by rfl) _ _ _ (by rfl) w.heap.size 177 iS _ 6 96 underlying169 hiS zS0 zS1 zS2 rfl (by decide) _ _ _ (by rfl) (hO6.alloc _) ⟨w6.heap.size,0,none⟩ 1 1 [.int .i64 kd,.string ky,.string nme,.slice a1 args.length c1,.slice a2 conds.length c2,.pointer fp] (by rfl) (by rfl) (Cs _ _ _ _ (by simp)) (OY rfl rfl rfl rfl rfl rfl) (by decide) (by unfold maxLen;omega) (by omega) (by simp;omega) (w6.heap.size+1) (by simp) ?_;intro g cap w7 vJ hgrow hat hg7;have g7:=Jp hO6 hgrow hN6 (by decide);have e7:=Ac g7;have f7:=Am g7;have l7:=Ab g7)
      |(go_simp;go_at_call 115;refine(HS9.o _ ?_).mono ?_;(first|exact I6.o.qs.dr|exact I6.o.qs);intro e6 w6 h6;obtain⟨new',a1,c1,a2,c2,fp,rfl,hpf,hnl,hok,qs6,wJ,pp6⟩:=h6.shape;have ft6:FT B0 kQ w5 w6:=(by first|exact wJ|exact(FT.refl B0 kQ w5).dr.trans wJ);have hN6:=ft6.at I6.o.blk (by decide);have c6:=Ac hN6;have l6:=Ab hN6;have hO6:=I6.o.own6 ft6;have z6:=qs6.pa;have y6:=Ac z6;have x6:=Ab z6;clear z6))
     all_goals(
      have HX:=Aa (I6.o.step (r:=(⟨kd,ky,nme,args,conds,pt⟩,Ps',s3)) hnl hok qs6 ft6 pp6 (by rw[show sL (ps++[w.heap.size]++new++new') ((⟨kd,ky,nme,args,conds,pt⟩:Aq),.slice a1 args.length c1,.slice a2 conds.length c2)=[.int .i64 kd,.string ky,.string nme,.slice a1 args.length c1,.slice a2 conds.length c2,.pointer fp]from by unfold sL;rw[hpf]];exact vJ) hgrow hat g7);clear hgrow vJ hok qs6 ft6 wJ pp6 hN6 hO6 g7 h6;go_wp2_with fail;go_roundg (ln s3)
      case measure=>omega
      case rel=>exact⟨_,_,_,_,s3,f',tL _,by omega,by omega,HX.o,by simp;omega,by simp;omega,by rw[HE.o];simp[Nat.add_assoc]⟩)
 case rest=>
 obtain⟨L,Ps,new,v,s3,i3,hL3,hrs⟩:=hcut;have HN:=Aa (Cc wc b G s3 15 i3.qs.rd);have hp4:=i3.qs.pa;have cp4:=Ac hp4;have lp4:=Ab hp4;have I3:=Aa i3;have HQ3:=Aa (show FF=(⟨typ,L.map Prod.fst⟩::Ps,nK s3 15)from by rw[HQ2.o,hrs]);clear i3 hp4 HQ2 vH hrs HM1;have HS1:=Aa (show mustT s3 (Ad s3 15)=nK s3 15 from rfl);rw[HS1.o]at HN;generalize nK s3 15=s4 at*;generalize (Ay s3 15).k=nk at*;generalize (Ay s3 15).n=nn at*;generalize (Ay s3 15).s=ny at*;go_wp2_with fail;refine HN.o.mono ?_;rintro _ w5 ⟨rfl,h5,k5⟩;have i5:=I3.o.call h5 k5;have hp5:=i5.qs.pa;have cp5:=Ac hp5;have fp5:=Am hp5;have lp5:=Ab hp5;have hcd:((d+1:Nat):Int)-1=(d:Int):=by omega
 have HCD:=Aa hcd;have HF:=Aa (i5.fin (by omega) d);have HNL:=Aa i5.nl;clear h5 k5 HN I3 cp4 lp4 i5 hp5 hcd;go_wp2_with fail;go_ret;rw[HQ3.o];exact⟨w.heap.size::new,w.heap.size,rfl,by simp,by simp[HNL.o],HF.o.1,HF.o.2.1,HF.o.2.2⟩
theorem NN:∀(f d:Nat),1<=f->11<=d+f->d<=1000->∀(w:World) (ps:List Nat) (typ:vD) (s:St),ps.length+ln s<=100000->NM w B0 p b q G d vO vF ps typ s (BA f ps.length d typ s)
 |0,_,h,_,_,_,_,_,_,_=>absurd h (by decide)
 |f+1,d,_,hdf,hd,w,ps,typ,s,hn=>fun h=>by
  refine pE (Et (fun n typ s=>BA f n (d+1) typ s)) (RP (Pe f (d+1))) typ h (by omega) hn (fun W ps' s' hl hn' hq=>?_);refine pG (fun n typ s=>BA f n (d+1) typ s) hq (fun W' typ' s'' hl'=>?_);refine NN f (d+1) ?_ (by omega) ?_ W' ps' typ' s'' (by omega)
  ·rcases Nat.lt_or_ge 10 (d+1)with a|a
   ·have e:Bz (d+1) s=none:=uC a
    rw[e]at hl;have h0:ln (nK none 14)=0:=rfl;omega
   ·omega
  ·rcases Nat.lt_or_ge 10 (d+1)with a|a
   ·have e:Bz (d+1) s=none:=uC a
    rw[e]at hl;have h0:ln (nK none 14)=0:=rfl;omega
   ·omega
end
section
variable {w:World} {B0 p b q G:Nat} {vO vF:Value} {ps:List Nat} {s:St}
theorem pB(h:QS w B0 p b q G s 0 vO vF ps)(hn:ps.length+ln s<=100000):
 Calls prog 67 #[.pointer (some ⟨p,0,none⟩)] w fun e w'=>∃new k,e=.returned (.agg #[.string (EK ps.length s).1.1,pV k])/\(ps++new)[ps.length]?=some k/\new.length=(EK ps.length s).2.1.length/\QS w' B0 p b q G (EK ps.length s).2.2 0 vO vF (ps++new)/\FT B0 kQ w w'/\Bh w' w.heap.size (ps++new) ps.length (EK ps.length s).2.1:=by
 obtain⟨u,hu⟩:∃u:Value,u=.pointer (some ⟨q,0,none⟩):=⟨_,rfl⟩;obtain⟨v,hv⟩:∃v:Value,v=.int .i64 (0:Nat):=⟨_,rfl⟩;have HU:=Aa (uV hu hv);have l0:LQ w w p b G u v s:=by rw[hu,hv];exact h.lq1
 have HS:=Aa h;have Q0:=Aa l0;have hlt:=h.rd.lt;have hpl:=l0.lt;have hB:=h.lt;have c:=l0.c0;have HQ:=Aa (EK.eq_1 ps.length s);generalize EK ps.length s=FF at*;have HSW:=Aa (fun W (hW:LQ w W p b G u v s)=>Sc W b G s Dl hW.ps);have HFS:=Aa (EL.eq_1 s);have hl1:ln (EL s)<=ln s:=by
  rw[HFS.o];split
  ·simp[ln]
  ·exact tL _
 generalize EL s=s1 at*;have HN1:=Aa (fun W (hW:LQ w W p b G u v s1)=>DX W b G s1 hW.ps);have hl2:=AZ s1;generalize nm s1=n1 at*;generalize nmT s1=s2 at*;have HW2:=Aa (fun W (hW:LQ w W p b G u v s2)=>(show Calls prog _ _ W (fun e w'=>_/\PS w' b G (nW s2 Dl)/\_)from OJ W b G s2 Dl hW.ps));have hl3:=Ri s2 Dl;generalize nW s2 Dl=s3 at*;have HN3:=Aa (fun W (hW:LQ w W p b G u v s3)=>DX W b G s3 hW.ps);have hl4:=AZ s3;generalize nm s3=n3 at*;generalize nmT s3=s4 at*;clear h l0 hu hv;go_enter func67,ntmps67;go_wp2_with fail;refine(HSW.o _ (Q0.o.al _)).mono ?_;rintro _ w1 ⟨rfl,b1⟩;have Q1:=Aa ((Q0.o.al _).be b1);have HZ1:=Aa ((b1.block _ (by simp)).trans (tS w (.cells #[.string ⟨#[]⟩,.pointer none] 112)));have hlz1:=Ab HZ1.o;have c1:=Q1.o.c0;have hp1:=Q1.o.lt;clear b1 HSW Q0
 go_upto_if 8 with fail
 go_cut [] (fun wc=>LQ w wc p b G u v s1/\wc.heap[w.heap.size]?=some (.cells #[.string ⟨#[]⟩,.pointer none] 112 (0,0)))
 case first=>
  cases eo:Bn s Dl
  ·rw[eo]at HFS
   have e1:s1=s:=HFS.o;subst e1;go_wp2_with fail;go_meet;exact⟨Q1.o,HZ1.o⟩
  ·rw[eo]at HFS
   have e1:s1=none:=HFS.o;have HF:=Aa (FO w1 b G s Q1.o.ps);go_wp2_with fail;refine HF.o.mono ?_;rintro _ w2 ⟨rfl,h2,k2⟩;go_wp2_with fail;go_meet;rw[e1];exact⟨Q1.o.call h2 k2,k2.at HZ1.o (by omega)⟩
 case rest=>
 obtain⟨q3,hZ⟩:=hcut;have Q3:=Aa q3;have HZ3:=Aa hZ;have c3:=q3.c0;have hp3:=q3.lt;have hlz3:=Ab hZ;clear q3 hZ HFS HZ1 Q1 c1 hp1;go_wp2_with fail;refine(HN1.o _ Q3.o).mono ?_;rintro _ w4 ⟨rfl,h4,k4⟩;have Q4:=Aa (Q3.o.call h4 k4);have HZ4:=Aa (k4.at HZ3.o (by omega));have hlz4:=Ab HZ4.o;have c4:=Q4.o.c0;have hp4:=Q4.o.lt;have hb4:=h4.lt;have hw4:w.heap.size<=w4.heap.size:=Nat.le_of_lt hlz4;clear h4 k4 HN1 Q3 HZ3 c3 hp3;go_wp2_with fail;refine(HW2.o _ (Q4.o.al _)).mono ?_;rintro _ w5 ⟨rfl,h5,k5⟩;have Q5:=Aa ((Q4.o.al _).call h5 k5);have HZ5:=Aa (k5.at ((AK w4 _ _ hlz4).trans HZ4.o) (by omega));have HA5:=Aa (k5.at (tS w4 _) (by omega));have c5:=Q5.o.c0;have hp5:=Q5.o.lt;clear h5 k5 HW2 Q4 HZ4 c4 hp4;go_wp2_with fail;refine(HN3.o _ Q5.o).mono ?_;rintro _ w6 ⟨rfl,h6,k6⟩;have Q6:=Aa (Q5.o.call h6 k6);have HZ6:=Aa (k6.at HZ5.o (by omega));have HA6:=Aa (k6.at HA5.o (by omega));clear h6 k6 HN3 Q5 HZ5 HA5 c5 hp5;have HQ6:=Aa (show QS w6 B0 p b q G s4 0 vO vF ps from HS.o.rdr (by have:=Q6.o;rw[HU.o.1,HU.o.2]at this;exact this));have HF6:=Aa (show FT B0 kQ w w6 from HS.o.ft Q6.o.kp hB);have wY:=Ab HZ6.o;have yK:=Ab HA6.o;have hw7:w.heap.size<=w6.heap.size:=Nat.le_of_lt wY;have HPC:=Aa (NN 11 0 (by decide) (by decide) (by decide) w6 ps n3 s4 (by omega) HQ6.o);have HQ2:=Aa (show FF=((n1,ps.length),BA 11 ps.length 0 n3 s4)from HQ.o);generalize BA 11 ps.length 0 n3 s4=pr at*;obtain⟨Ps,s5⟩:=pr;clear HQ;simp only[]at HPC;go_wp2_with fail;refine HPC.o.mono ?_;rintro _ w8 ⟨new,k,rfl,hk,hnl,qs8,ft8,pp8⟩;have hA8:=ft8.at HA6.o (by decide);have hZ8:=ft8.at HZ6.o (by decide);have HA8:=Aa (AI hA8 1 (pV k));have HZ8:=Aa (DT (i:=1) hZ8 (show w.heap.size≠w4.heap.size by omega) (pV k));have HF8:=Aa ((HF6.o.trans ft8).sn hB ⟨w4.heap.size,1,none⟩ hw4 (pV k));have HQ8:=Aa (qs8.st hA8 (by decide) 1 (pV k));have xK:=Aa (pp8.typ' (AA.setB yK 1 (pV k)));have HNL:=Aa (uV hnl hk);have cA:=Ac hA8;have fA:=Am hA8;have hlA:=Ab hA8;have cZ:=Ac hZ8;have fZ:=Am hZ8;have hlZ:=Ab hZ8;unfold pV at HA8 HZ8 HF8 HQ8 xK;clear qs8 ft8 pp8 hA8 hZ8 HPC HA6 HZ6 HQ6 HF6 hk hnl;have FIN:=Aa (fun Y (kz:Ag w.heap.size (w8.setCell ⟨w4.heap.size,1,none⟩ (.pointer (some ⟨k,0,none⟩))) Y)=>(show∃new k',Ending.returned (.agg #[.string n1,.pointer (some ⟨k,0,none⟩)])=.returned (.agg #[.string n1,pV k'])/\(ps++new)[ps.length]?=some k'/\new.length=Ps.length/\QS Y B0 p b q G s5 0 vO vF (ps++new)/\FT B0 kQ w Y/\Bh Y w.heap.size (ps++new) ps.length Ps from
  ⟨new,k,rfl,HNL.o.2,HNL.o.1,HQ8.o.typ (AA.keep kz HZ8.o (by decide)),HF8.o.kn kz (tL _) hB,(xK.o.typ' (AA.keepB kz wY)).low hw7⟩))
 unfold pV;go_wp2_with fail;rw[HQ2.o];refine bodyPost_ret (v:=.agg #[.string n1,.pointer (some ⟨k,0,none⟩)]) (by simp[results,results67,go_sem, *]) rfl ?_;refine FIN.o _ ?_;repeat' with_reducible first|exact Ag.refl _ _|refine Ag.setCell ?_ _ _
end
attribute [local go_sem ↓] Go.wp_at_zero Go.wp_at_succ
theorem infoVar:(prog.info? 118).map (fun i=>(i.zero,i.size,i.bytes))=some (some (.agg #[.string ⟨#[]⟩,.string ⟨#[]⟩,.bool false,.bool false,.int .i64 0,.int .i64 0,.string ⟨#[]⟩]),7,72):=by kernel_rfl
theorem OG(s:St):ln (CP s).2<=ln (nK s 6):=by
 unfold CP;simp only[];have h1:=AZ (nK s 6);have h2:=Ft (nmT (nK s 6)) 9;have h3:=AZ (nK (nmT (nK s 6)) 9);have h4:=LN (nmT (nK (nmT (nK s 6)) 9)) (Ad (nmT (nK (nmT (nK s 6)) 9)) 5);have h5:=LN (mayT (nmT (nK (nmT (nK s 6)) 9)) (Ad (nmT (nK (nmT (nK s 6)) 9)) 5)) (Ad (mayT (nmT (nK (nmT (nK s 6)) 9)) (Ad (nmT (nK (nmT (nK s 6)) 9)) 5)) 10);split
 ·exact tQ (Rl _) (by omega)
 ·show ln (mayT _ _)<=_;omega
theorem Rh(s:St)(k:Nat)(hk:k≠0)(h:Ad s k=true):ln (nK s k)<ln s:=by
 unfold nK mustT;rw[uC h];exact EG s k hk h
theorem oV(f:Nat)(s:St)(h:Ad s 6=false):CZ f s=([],s):=by
 cases f with
 |zero=>rfl
 |succ f=>rw[CZ,uB (by rw[h];simp)]
theorem Vp:∀(f:Nat) (s:St),ln (CZ f s).2<=ln s
 |0,s=>tL _
 |f+1,s=>by
  rw[CZ];split
  ·exact tQ (Vp f _) (tQ (OG s) (Ft s 6))
  ·exact tL _
def Gu(s:St):List DS×St:=if Ad s 7=true then((CP (tl s)).1::(CZ 801 (CP (tl s)).2).1,nK (CZ 801 (CP (tl s)).2).2 8)else([],s)
theorem UZ(s:St):ln (Gu s).2<=ln s:=by
 unfold Gu;split
 ·exact tQ (Ft _ _) (tQ (Vp _ _) (tQ (OG _) (tQ (Ft _ _) (BG s))))
 ·exact tL _
theorem Mc(n:Nat)(s:St):EM n s=(((Gu (mayT s (Ad s 1))).1,n),BA 11 n 0 ⟨#[]⟩ (Gu (mayT s (Ad s 1))).2):=by
 unfold EM Gu Iw;generalize mayT s (Ad s 1)=s1;generalize CZ 801=F;generalize BA 11=P;simp only[];split<;>rfl
theorem Wj{a b c d e f g:Value}(h1:a.oneCell'=true)(h2:b.oneCell'=true)(h3:c.oneCell'=true)(h4:d.oneCell'=true)(h5:e.oneCell'=true)(h6:f.oneCell'=true)(h7:g.oneCell'=true):∀u∈[a,b,c,d,e,f,g],u.oneCell'=true:=by
 intro u hu;simp at hu;rcases hu with rfl|rfl|rfl|rfl|rfl|rfl|rfl<;>assumption
structure OV(w X:World)(p b G:Nat)(u u':Value)(L:List DS)(v:Value)(s:St):Prop where
 q:LQ w X p b G u u' s
 z:X.heap[w.heap.size]?=some (.cells #[.slice none 0 0,.pointer none] 91 (0,0))
 n:X.heap[w.heap.size+1]?=some (.cells #[v,.pointer none] 91 (0,0))
 o:X.ownsRow (w.heap.size+2) 118 7 v L.length (L.flatMap Mi)
section
variable {w X Y w6 w7:World} {p b G:Nat} {u u' v:Value} {L:List DS} {s s':St}
theorem OV.call(h:OV w X p b G u u' L v s)(hp:PS Y b G s')(k:Ag b X Y):OV w Y p b G u u' L v s':=
 ⟨h.q.call hp k,k.at h.z (by have:=h.q.hb;omega),k.at h.n (by have:=h.q.hb;omega),h.q.own k h.o (by omega)⟩
theorem OV.tr(h:OV w X p b G u u' L v s)(k:LQ X Y p b G u u' s'):OV w Y p b G u u' L v s':=h.call k.ps k.kp
theorem OV.be(h:OV w X p b G u u' L v s)(k:vE X Y):OV w Y p b G u u' L v s:=
 ⟨h.q.be k,(k.block _ (Ab h.z)).trans h.z,(k.block _ (Ab h.n)).trans h.n,AT h.o k⟩
theorem OV.dr(h:OV w X p b G u u' L v s):OV w X.drew p b G u u' L v s:=⟨h.q.dr,h.z,h.n,h.o.drew⟩
theorem OV.step{o:Obj}{x:DS}{g cap:Nat}(h:OV w w6 p b G u u' L v s)(hg:(w6.alloc o).grownBy w7 v.ownBlock)
 (hown:w7.ownsRow (w.heap.size+2) 118 7 (.slice (some ⟨g,0,none⟩) (L.length+1) cap) (L.length+1) (L.flatMap Mi++Mi x)):
 OV w (w7.setCell ⟨w.heap.size+1,0,none⟩ (.slice (some ⟨g,0,none⟩) (L.length+1) cap)) p b G u u' (L++[x]) (.slice (some ⟨g,0,none⟩) (L.length+1) cap) s:=by
 have hn:=Jp h.o hg h.n (by decide);have hz:=Jp h.o hg h.z (by decide);exact⟨h.q.app h.o hg (by omega) (by omega) 0 _,DT hz (by omega) _,AI hn 0 _,by rw[uE,List.flatMap_append];simp only[List.flatMap_cons,List.flatMap_nil,List.append_nil];exact Di hown (Bv hown hn (by decide)) _ _⟩
end
section
variable {w:World} {B0 p b q G:Nat} {vO vF:Value} {ps:List Nat} {s:St}
theorem pD(h:QS w B0 p b q G s 0 vO vF ps)(hn:ps.length+ln s<=100000):
 Calls prog 66 #[.pointer (some ⟨p,0,none⟩)] w fun e w'=>∃new k vV,e=.returned (.agg #[vV,pV k])/\w'.ownsRow w.heap.size 118 7 vV (EM ps.length s).1.1.length ((EM ps.length s).1.1.flatMap Mi)/\(EM ps.length s).1.1.length<=802/\(ps++new)[ps.length]?=some k/\new.length=(EM ps.length s).2.1.length/\QS w' B0 p b q G (EM ps.length s).2.2 0 vO vF (ps++new)/\FT B0 kQ w w'/\Bh w' w.heap.size (ps++new) ps.length (EM ps.length s).2.1:=by
 obtain⟨i0,hi,hz0,hz1,hz2⟩:=info_parts infoVar;obtain⟨u,hu⟩:∃u:Value,u=.pointer (some ⟨q,0,none⟩):=⟨_,rfl⟩;obtain⟨u',hv⟩:∃v:Value,v=.int .i64 (0:Nat):=⟨_,rfl⟩;have HU:=Aa (uV hu hv);have l0:LQ w w p b G u u' s:=by rw[hu,hv];exact h.lq1
 have HS:=Aa h;have Q0:=Aa l0;have hlt:=h.rd.lt;have hpl:=l0.lt;have hB:=h.lt;have hl8:=h.rd.len;have c:=l0.c0;have HQ:=Aa (Mc ps.length s);generalize EM ps.length s=FF at*;have HT1:=Aa (fun W (hW:LQ w W p b G u u' s)=>Ev W b G s 1 hW.ps);have hl1:=LN s (Ad s 1);generalize mayT s (Ad s 1)=s1 at*;have HT2:=Aa (fun W (hW:LQ w W p b G u u' s1)=>Ev W b G s1 7 hW.ps);have HOV:=Aa (Gu.eq_1 s1);have hl2:=UZ s1;generalize Gu s1=ov at*;obtain⟨vars,s2⟩:=ov;simp only[]at HQ hl2;have HVA:=Aa (fun W s' (hW:LQ w W p b G u u' s')=>pJ hW.one);clear h l0 hu hv;go_enter func66,ntmps66;go_wp2_with fail;refine(HT1.o _ ((Q0.o.al _).al _)).mono ?_;rintro _ w1 ⟨rfl,h1,k1⟩;have O1:=Aa (show OV w w1 p b G u u' [] (.slice none 0 0) s1 from⟨((Q0.o.al _).al _).call h1 k1,k1.at ((AK _ _ _ (by simp)).trans (tS w _)) (by omega),k1.at (Mh w _ _) (by omega),uA _ _ _ _⟩);have c1:=O1.o.q.c0;have hp1:=O1.o.q.lt;clear h1 k1 HT1 Q0;go_wp2_with fail;refine(HT2.o _ O1.o.q).mono ?_;rintro _ w2 ⟨rfl,h2,k2⟩;have O2:=Aa (O1.o.call h2 k2);clear h2 k2 HT2 O1 c1 hp1
 go_upto_if 13 with fail
 go_cut [] (fun wc=>∃v,OV w wc p b G u u' vars v s2/\vars.length<=802)
 case first=>
  cases e7:Ad s1 7
  ·rw[e7]at O2 HOV
   obtain⟨e1,e2⟩:vars=[]/\s2=s1:=by have:=HOV.o;simpa using this
   subst e1 e2;go_wp2_with fail;go_meet;exact⟨_,O2.o,by simp⟩
  ·rw[e7]at O2 HOV
   have O2:=Aa (show OV w w2 p b G u u' [] (.slice none 0 0) (tl s1)from O2.o);have HOV2:=Aa (show(vars,s2)=((CP (tl s1)).1::(CZ 801 (CP (tl s1)).2).1,nK (CZ 801 (CP (tl s1)).2).2 8)from HOV.o);clear HOV e7;have hlt1:ln (tl s1)<=801:=O2.o.q.ps.len;generalize tl s1=s3 at*;obtain⟨L0,hL0⟩:∃L0:List DS,L0=[]:=⟨_,rfl⟩;obtain⟨v0,o3⟩:∃v0,OV w w2 p b G u u' L0 v0 s3:=by rw[hL0];exact⟨_,O2.o⟩
   obtain⟨a0,c0,rfl⟩:=An o3.o;have HE0:=Aa hL0;have hL0l:L0.length<=0:=by rw[hL0];simp
   have cN:=Ac o3.n;have fN:=Am o3.n;have lN:=Ab o3.n;have O3:=Aa o3;have HV0:=Aa (HVA.o · s3);have hl4:=tQ (OG s3) (Ft s3 6);clear hL0 O2 o3;generalize CP s3=r at*;obtain⟨⟨vn,vs,vb,vh,vk,vm,vt⟩,s4⟩:=r;simp only[Sq]at HV0 HOV2 hl4;go_upto_region 4 with fail;go_cut [] (fun wc=>∃L v,OV w wc p b G u u' L v s4/\L=[⟨vn,vs,vb,vh,(vk,vm,vt)⟩])
   case first=>
    go_region_law (first
     |(refine step_append_lies _ (by rfl) _ _ _ (by rfl) (w.heap.size+2) 118 i0 _ 7 72 underlying88 hi hz0 hz1 hz2 rfl (by decide) _ _ _ (by rfl) (hO6.alloc _) ⟨w6.heap.size,0,none⟩ 1 1 [.string vn,.string vs,.bool vb,.bool vh,.int .i64 vk,.int .i64 vm,.string vt] (by rfl) (by rfl) (Cs _ _ _ _ (by simp)) (Wj rfl rfl rfl rfl rfl rfl rfl) (by decide) (by unfold maxLen;omega) (by omega) (by simp;omega) (w6.heap.size+1) (by simp) ?_;intro g cap w7 vJ hgrow hat hg7;have g7:=Jp hO6 hgrow o6.n (by decide);have e7:=Ac g7;have f7:=Am g7;have l7:=Ab g7)
     |(go_simp;go_at_call 118;refine(HV0.o _ ?_).mono ?_;(first|exact O3.o.dr.q|exact O3.o.q);rintro _ w6 ⟨rfl,q6⟩;have o6:OV w w6 p b G u u' L0 (.slice a0 L0.length c0) s4:=(by first|exact O3.o.tr q6|exact O3.o.dr.tr q6);have hO6:=o6.o;have c6:=Ac o6.n;have l6:=Ab o6.n))
    all_goals(
     have HX:=Aa (o6.step (x:=⟨vn,vs,vb,vh,(vk,vm,vt)⟩) hgrow vJ);clear hgrow vJ hO6 g7 o6 q6;go_wp2_with fail;go_meet;refine⟨_,_,HX.o,?_⟩;rw[HE0.o];rfl)
   case rest=>
   obtain⟨L1,v1,o1,hL1⟩:=hcut;have O1:=Aa o1;have hL1l:L1.length<=1:=by rw[hL1];simp
   have HL1:=Aa hL1;clear o1 hL1 O3 HV0 cN fN lN hL0l HE0;have HRS:=Aa (show(vars,s2)=(L1++(CZ 801 s4).1,nK (CZ 801 s4).2 8)from by rw[HOV2.o,HL1.o];rfl);clear HOV2 HL1;go_wp2_with fail;go_loopg [] (ln s4) (fun m wr=>∃(L:List DS) (v:Value) (s':St) (f:Nat),ln s'<=m/\ln s'<=f/\OV w wr p b G u u' L v s'/\L.length+ln s'<=802/\(vars,s2)=(L++(CZ f s').1,nK (CZ f s').2 8))
   case atStart=>exact⟨L1,v1,s4,801,tL _,by omega,O1.o,by omega,HRS.o⟩
   case round=>
    obtain⟨L,v,s',f,hlk,hlf,or,hLl,hrel⟩:=hrel;obtain⟨a0,c0,rfl⟩:=An or.o;have HM:=Aa hrel;have OR:=Aa or;have c4:=or.q.c0;have hp4:=or.q.lt;have hSE:=Aa (GS wr b G s' 6 or.q.ps);clear or hrel O1 HRS;cases e6:Ad s' 6
    ·rw[e6]at hSE
     have HE:=Aa (show vars=L/\s2=nK s' 8 from by have:=HM.o;rw[oV f s' e6]at this;simpa using this);have HN:=Aa (fun W (hW:PS W b G s')=>(show Calls prog _ _ W (fun e w'=>_/\PS w' b G (nK s' 8)/\_)from Cc W b G s' 8 hW));generalize (Ay s' 8).k=mk at*;generalize (Ay s' 8).n=mn at*;generalize (Ay s' 8).s=my at*;clear e6 HM HVA;go_wp2_with fail;refine hSE.o.mono ?_;rintro _ w5 ⟨rfl,b5⟩;have O5:=Aa (OR.o.be b5);have c5:=O5.o.q.c0;have hp5:=O5.o.q.lt;clear b5;go_wp2_with fail;refine(HN.o _ O5.o.q.ps).mono ?_;rintro _ w6 ⟨rfl,h6,k6⟩;go_wp2_with fail;go_meet;obtain⟨e1,e2⟩:=HE.o;rw[e1,e2];exact⟨_,O5.o.call h6 k6,by omega⟩
    ·rw[e6]at hSE
     have hlt6:=Rh s' 6 (by decide) e6;have hlv:=OG s';obtain⟨f',rfl⟩:∃f',f=f'+1:=⟨f-1,by omega⟩;have HE:=Aa (show(vars,s2)=(L++((CP s').1::(CZ f' (CP s').2).1),nK (CZ f' (CP s').2).2 8)from by rw[HM.o,CZ,uC e6]);have HV0:=Aa (HVA.o · s');clear e6 HM HVA;generalize CP s'=r at*;obtain⟨⟨vn,vs,vb,vh,vk,vm,vt⟩,s5⟩:=r;simp only[Sq]at HV0 HE hlv;go_wp2_with fail;refine hSE.o.mono ?_;rintro _ w5 ⟨rfl,b5⟩;have o5:=OR.o.be b5;have cN:=Ac o5.n;have fN:=Am o5.n;have lN:=Ab o5.n;have O5:=Aa o5;have hLb:L.length<=802:=by omega
     clear b5 o5 OR c4 hp4;go_wp2_with fail;go_region_law (first
      |(refine step_append_lies _ (by rfl) _ _ _ (by rfl) (w.heap.size+2) 118 i0 _ 7 72 underlying88 hi hz0 hz1 hz2 rfl (by decide) _ _ _ (by rfl) (hO6.alloc _) ⟨w6.heap.size,0,none⟩ 1 1 [.string vn,.string vs,.bool vb,.bool vh,.int .i64 vk,.int .i64 vm,.string vt] (by rfl) (by rfl) (Cs _ _ _ _ (by simp)) (Wj rfl rfl rfl rfl rfl rfl rfl) (by decide) (by unfold maxLen;omega) (by omega) (by simp;omega) (w6.heap.size+1) (by simp) ?_;intro g cap w7 vJ hgrow hat hg7;have g7:=Jp hO6 hgrow o6.n (by decide);have e7:=Ac g7;have f7:=Am g7;have l7:=Ab g7)
      |(go_simp;go_at_call 118;refine(HV0.o _ ?_).mono ?_;(first|exact O5.o.dr.q|exact O5.o.q);rintro _ w6 ⟨rfl,q6⟩;have o6:OV w w6 p b G u u' L (.slice a0 L.length c0) s5:=(by first|exact O5.o.tr q6|exact O5.o.dr.tr q6);have hO6:=o6.o;have c6:=Ac o6.n;have l6:=Ab o6.n))
     all_goals(
      have HX:=Aa (o6.step (x:=⟨vn,vs,vb,vh,(vk,vm,vt)⟩) hgrow vJ);clear hgrow vJ hO6 g7 o6 q6;go_wp2_with fail;go_roundg (ln s5)
      case measure=>omega
      case rel=>exact⟨_,_,s5,f',tL _,by omega,HX.o,by simp;omega,by rw[HE.o];simp⟩)
 case rest=>
 obtain⟨v3,o3,hvl⟩:=hcut;obtain⟨aV,cV,rfl⟩:=An o3.o;have O3:=Aa o3;have HQ6:=Aa (show QS wc B0 p b q G s2 0 vO vF ps from HS.o.rdr (by have:=o3.q;rw[HU.o.1,HU.o.2]at this;exact this));have HF6:=Aa (show FT B0 kQ w wc from HS.o.ft o3.q.kp hB);have yK:=Ab o3.n;have wY:=Ab o3.z;have hw7:w.heap.size<=wc.heap.size:=Nat.le_of_lt wY;have HPC:=Aa (NN 11 0 (by decide) (by decide) (by decide) wc ps ⟨#[]⟩ s2 (by omega) HQ6.o);generalize BA 11 ps.length 0 ⟨#[]⟩ s2=pr at*;obtain⟨Ps,s5⟩:=pr;simp only[]at HPC HQ;clear o3 HOV O2 HVA;go_wp2_with fail;refine HPC.o.mono ?_;rintro _ w8 ⟨new,k,rfl,hk,hnl,qs8,ft8,pp8⟩;have hA8:=ft8.at O3.o.n (by decide);have hZ8:=ft8.at O3.o.z (by decide);have HA8:=Aa (AI hA8 1 (pV k));have HZ8:=Aa (DT (i:=1) hZ8 (show w.heap.size≠w.heap.size+1 by omega) (pV k));have HF8:=Aa ((HF6.o.trans ft8).sn hB ⟨w.heap.size+1,1,none⟩ (Nat.le_succ _) (pV k));have HQ8:=Aa (qs8.st hA8 (by decide) 1 (pV k));have HO8:=Aa (Di (i:=1) (ft8.own O3.o.o (by decide)) (Bv (ft8.own O3.o.o (by decide)) hA8 (by decide)) (pV k));have xK:=Aa (pp8.typ' (AA.setB yK 1 (pV k)));have HNL:=Aa (uV hnl hk);have cA:=Ac hA8;have fA:=Am hA8;have hlA:=Ab hA8;have cZ:=Ac hZ8;have fZ:=Am hZ8;have hlZ:=Ab hZ8;unfold pV at HA8 HZ8 HF8 HQ8 xK HO8;clear qs8 ft8 pp8 hA8 hZ8 HPC O3 HQ6 HF6 hk hnl;have FIN:=Aa (fun Y (kz:Ag w.heap.size (w8.setCell ⟨w.heap.size+1,1,none⟩ (.pointer (some ⟨k,0,none⟩))) Y)=>(show∃new k' vV,Ending.returned (.agg #[.slice aV vars.length cV,.pointer (some ⟨k,0,none⟩)])=.returned (.agg #[vV,pV k'])/\Y.ownsRow w.heap.size 118 7 vV vars.length (vars.flatMap Mi)/\vars.length<=802/\(ps++new)[ps.length]?=some k'/\new.length=Ps.length/\QS Y B0 p b q G s5 0 vO vF (ps++new)/\FT B0 kQ w Y/\Bh Y w.heap.size (ps++new) ps.length Ps from
  ⟨new,k,_,rfl,Fw ((AA.keep (B:=0) (K:=[118]) kz HZ8.o (by decide)).own HO8.o (by decide) (tU _)) (by omega),hvl,HNL.o.2,HNL.o.1,HQ8.o.typ (AA.keep kz HZ8.o (by decide)),HF8.o.kn kz (tL _) hB,(xK.o.typ' (AA.keepB kz wY)).low hw7⟩))
 unfold pV;go_wp2_with fail;rw[HQ.o];refine bodyPost_ret (v:=.agg #[.slice aV vars.length cV,.pointer (some ⟨k,0,none⟩)]) (by simp[results,results66,go_sem, *]) rfl ?_;refine FIN.o _ ?_;repeat' with_reducible first|exact Ag.refl _ _|refine Ag.setCell ?_ _ _
end
attribute [local go_sem ↓] Go.wp_at_zero Go.wp_at_succ
abbrev kR:List TypeId:=[155,100,80,89,91,112]
abbrev GY:=NO×Value
def oL(pp:List Nat)(x:GY):List Value:=[x.2,AM pp (some x.1.2)]
def Hl(pp:List Nat)(x:CS):List Value:=[.string x.1,AM pp (some x.2)]
structure PH(X:World)(B0 n:Nat)(x:GY):Prop where
 v:X.ownsRow B0 118 7 x.2 x.1.1.length (x.1.1.flatMap Mi)
 l:x.1.1.length<=802
 p:x.1.2<n
structure QE(X:World)(B0 p b q G:Nat)(s:St)(vO vF:Value)(LO:List GY)(fr:List CS)(parts:List Ai)(ps:List Nat):Prop where
 qs:QS X B0 p b q G s 0 vO vF ps
 o:X.ownsRow B0 91 2 vO LO.length (LO.flatMap (oL ps))
 oo:∀x∈LO,PH X B0 ps.length x
 f:X.ownsRow B0 112 2 vF fr.length (fr.flatMap (Hl ps))
 ff:∀x∈fr,x.2<ps.length
 n:ps.length=parts.length
 pt:Bh X B0 ps 0 parts
section
variable {w X Y w6 w7:World} {B0 p b q G:Nat} {s s':St} {vO vF v7:Value} {LO:List GY} {fr:List CS} {parts Ps:List Ai} {ps new:List Nat}
theorem lR{x:GY}(h:x.1.2<ps.length):oL (ps++new) x=oL ps x:=by
 unfold oL;rw[RK _ (fun i e=>by cases e;exact h)]
theorem lU{L:List GY}(h:∀x∈L,x.1.2<ps.length):L.flatMap (oL (ps++new))=L.flatMap (oL ps):=by
 induction L with
 |nil=>rfl
 |cons x l ih=>rw[List.flatMap_cons,List.flatMap_cons,lR (h x uX),ih (fun y hy=>h y (uW _ hy))]
theorem dP{x:CS}(h:x.2<ps.length):Hl (ps++new) x=Hl ps x:=by
 unfold Hl;rw[RK _ (fun i e=>by cases e;exact h)]
theorem dQ{L:List CS}(h:∀x∈L,x.2<ps.length):L.flatMap (Hl (ps++new))=L.flatMap (Hl ps):=by
 induction L with
 |nil=>rfl
 |cons x l ih=>rw[List.flatMap_cons,List.flatMap_cons,dP (h x uX),ih (fun y hy=>h y (uW _ hy))]
theorem QE.ft(h:QE X B0 p b q G s vO vF LO fr parts ps)(qs6:QS w6 B0 p b q G s' 0 vO vF (ps++new))(ft6:FT B0 kQ X w6)(hnl:new.length=Ps.length)(pp6:Bh w6 X.heap.size (ps++new) ps.length Ps):QE w6 B0 p b q G s' vO vF LO fr (parts++Ps) (ps++new):=by
 have hB:=h.qs.lt;refine⟨qs6,by rw[lU (fun x hx=>(h.oo x hx).p)];exact ft6.own h.o (by decide),fun x hx=>⟨ft6.own (h.oo x hx).v (by decide),(h.oo x hx).l,by have:=(h.oo x hx).p;rw[uE];omega⟩,by rw[dQ h.ff];exact ft6.own h.f (by decide),fun x hx=>by have:=h.ff x hx;rw[uE];omega,by rw[uE,uE,h.n,hnl],?_⟩;refine Bh.app (h.pt.typ (AA.ft ft6 (by decide))) ?_;rw[Nat.zero_add,<-h.n];exact pp6.low hB
theorem QE.stay(h:QE X B0 p b q G s vO vF LO fr parts ps)(qs:QS Y B0 p b q G s' 0 vO vF ps)(V:AA 0 [91,112,118,171,177,184,186] X Y):QE Y B0 p b q G s' vO vF LO fr parts ps:=
 ⟨qs,V.own h.o (by decide) (tU _),fun x hx=>⟨V.own (h.oo x hx).v (by decide) (tU _),(h.oo x hx).l,(h.oo x hx).p⟩,V.own h.f (by decide) (tU _),h.ff,h.n,h.pt.typ' ⟨V.1,fun k cs t fr _ hk ht=>V.2 k cs t fr (tU _) hk (by simp at ht⊢;rcases ht with e|e|e|e<;>simp[e])⟩⟩
theorem QE.call(h:QE X B0 p b q G s vO vF LO fr parts ps)(hp:PS Y b G s')(k:Ag b X Y):QE Y B0 p b q G s' vO vF LO fr parts ps:=by
 obtain⟨c,hc⟩:=h.qs.rd.ty;exact h.stay (h.qs.call hp k) (AA.keep k hc (by decide))
theorem QE.be(h:QE X B0 p b q G s vO vF LO fr parts ps)(k:vE X Y):QE Y B0 p b q G s vO vF LO fr parts ps:=h.stay (h.qs.be k) (AA.below k)
theorem QE.dr(h:QE X B0 p b q G s vO vF LO fr parts ps):QE X.drew B0 p b q G s vO vF LO fr parts ps:=h.stay h.qs.dr AA.drew
theorem QE.addOp{o:Obj}{x:GY}{g cap k:Nat}(h:QE w6 B0 p b q G s vO vF LO fr parts ps)(hg:(w6.alloc o).grownBy w7 vO.ownBlock)
 (hown:w7.ownsRow B0 91 2 (.slice (some ⟨g,0,none⟩) (LO.length+1) cap) (LO.length+1) (LO.flatMap (oL ps)++[x.2,.pointer (some ⟨k,0,none⟩)])) (hk:ps[x.1.2]?=some k) (hx:PH w6 B0 ps.length x):
 QE (w7.setCell ⟨q,0,none⟩ (.slice (some ⟨g,0,none⟩) (LO.length+1) cap)) B0 p b q G s (.slice (some ⟨g,0,none⟩) (LO.length+1) cap) vF (LO++[x]) fr parts ps/\FT B0 kR w6 (w7.setCell ⟨q,0,none⟩ (.slice (some ⟨g,0,none⟩) (LO.length+1) cap)):=by
 have hB:=h.qs.lt;have ho:(w6.alloc o).ownsRow B0 91 2 vO LO.length (LO.flatMap (oL ps)):=h.o.alloc o;obtain⟨vP,h1,h2⟩:=h.qs.qy;have V1:AA 0 [155,103,100,80,89,112,118,171,177,184,186] w6 w7:=(AA.alloc o).trans (AA.grown hg ho (by decide));have hq7:=V1.2 _ _ _ _ (tU _) h1 (by decide);have V2:AA 0 [155,103,100,89,112,118,171,177,184,186] w7 (w7.setCell ⟨q,0,none⟩ (.slice (some ⟨g,0,none⟩) (LO.length+1) cap)):=AA.set hq7 (by decide) _ _;have V:AA 0 [155,103,100,89,112,118,171,177,184,186] w6 (w7.setCell ⟨q,0,none⟩ (.slice (some ⟨g,0,none⟩) (LO.length+1) cap)):=
  ⟨tQ V1.1 V2.1,fun k cs t fr hb hk ht=>V2.2 k cs t fr hb (V1.2 k cs t fr hb hk (by simp at ht⊢;rcases ht with e|e|e|e|e|e|e|e|e|e<;>simp[e])) ht⟩
 refine⟨⟨⟨h.qs.rd.typ V (by decide) (by decide),V.2 _ _ _ _ (tU _) h.qs.pa (by decide),⟨vP,AI hq7 0 _,V.own h2 (by decide) (tU _)⟩,h.qs.lb,h.qs.lp,h.qs.lq⟩,?_,?_,V.own h.f (by decide) (tU _),h.ff,h.n,h.pt.typ' ⟨V.1,fun k cs t fr _ hk ht=>V.2 k cs t fr (tU _) hk (by simp at ht⊢;rcases ht with e|e|e|e<;>simp[e])⟩⟩,?_⟩
 ·rw[uE,List.flatMap_append]
  have e:[x].flatMap (oL ps)=[x.2,.pointer (some ⟨k,0,none⟩)]:=by
   simp only[List.flatMap_cons,List.flatMap_nil,List.append_nil,oL,AM,hk,Option.map_some]
  rw[e];exact Di hown (Bv hown hq7 (by decide)) _ _
 ·intro y hy
  rcases uZ.1 hy with hy|hy
  ·exact⟨V.own (h.oo y hy).v (by decide) (tU _),(h.oo y hy).l,(h.oo y hy).p⟩
  ·rw[List.mem_singleton]at hy;subst hy
   exact⟨V.own hx.v (by decide) (tU _),hx.l,hx.p⟩
 ·exact(((FT.refl B0 kR w6).al hB o).gr hg (fun k hk=>.inl ⟨(ho.lt k hk).1,by obtain⟨cur,hc⟩:=Fx ho k hk;exact⟨_,_,_,hc,by decide⟩⟩) hB).st hq7 (by decide) h.qs.lq 0 _
theorem QE.addFr{o:Obj}{x:CS}{g cap k:Nat}(h:QE w6 B0 p b q G s vO vF LO fr parts ps)(hg:(w6.alloc o).grownBy w7 vF.ownBlock)
 (hown:w7.ownsRow B0 112 2 (.slice (some ⟨g,0,none⟩) (fr.length+1) cap) (fr.length+1) (fr.flatMap (Hl ps)++[.string x.1,.pointer (some ⟨k,0,none⟩)])) (hk:ps[x.2]?=some k) (hx:x.2<ps.length):
 QE (w7.setCell ⟨q,1,none⟩ (.slice (some ⟨g,0,none⟩) (fr.length+1) cap)) B0 p b q G s vO (.slice (some ⟨g,0,none⟩) (fr.length+1) cap) LO (fr++[x]) parts ps/\FT B0 kR w6 (w7.setCell ⟨q,1,none⟩ (.slice (some ⟨g,0,none⟩) (fr.length+1) cap)):=by
 have hB:=h.qs.lt;have ho:(w6.alloc o).ownsRow B0 112 2 vF fr.length (fr.flatMap (Hl ps)):=h.f.alloc o;obtain⟨vP,h1,h2⟩:=h.qs.qy;have V1:AA 0 [155,103,100,80,89,91,118,171,177,184,186] w6 w7:=(AA.alloc o).trans (AA.grown hg ho (by decide));have hq7:=V1.2 _ _ _ _ (tU _) h1 (by decide);have V2:AA 0 [155,103,100,89,91,118,171,177,184,186] w7 (w7.setCell ⟨q,1,none⟩ (.slice (some ⟨g,0,none⟩) (fr.length+1) cap)):=AA.set hq7 (by decide) _ _;have V:AA 0 [155,103,100,89,91,118,171,177,184,186] w6 (w7.setCell ⟨q,1,none⟩ (.slice (some ⟨g,0,none⟩) (fr.length+1) cap)):=
  ⟨tQ V1.1 V2.1,fun k cs t fr hb hk ht=>V2.2 k cs t fr hb (V1.2 k cs t fr hb hk (by simp at ht⊢;rcases ht with e|e|e|e|e|e|e|e|e|e<;>simp[e])) ht⟩
 refine⟨⟨⟨h.qs.rd.typ V (by decide) (by decide),V.2 _ _ _ _ (tU _) h.qs.pa (by decide),⟨vP,AI hq7 1 _,V.own h2 (by decide) (tU _)⟩,h.qs.lb,h.qs.lp,h.qs.lq⟩,V.own h.o (by decide) (tU _),fun y hy=>⟨V.own (h.oo y hy).v (by decide) (tU _),(h.oo y hy).l,(h.oo y hy).p⟩,?_,?_,h.n,h.pt.typ' ⟨V.1,fun k cs t fr _ hk ht=>V.2 k cs t fr (tU _) hk (by simp at ht⊢;rcases ht with e|e|e|e<;>simp[e])⟩⟩,?_⟩
 ·rw[uE,List.flatMap_append]
  have e:[x].flatMap (Hl ps)=[.string x.1,.pointer (some ⟨k,0,none⟩)]:=by
   simp only[List.flatMap_cons,List.flatMap_nil,List.append_nil,Hl,AM,hk,Option.map_some]
  rw[e];exact Di hown (Bv hown hq7 (by decide)) _ _
 ·intro y hy
  rcases uZ.1 hy with hy|hy
  ·exact h.ff y hy
  ·rw[List.mem_singleton]at hy;subst hy;exact hx
 ·exact(((FT.refl B0 kR w6).al hB o).gr hg (fun k hk=>.inl ⟨(ho.lt k hk).1,by obtain⟨cur,hc⟩:=Fx ho k hk;exact⟨_,_,_,hc,by decide⟩⟩) hB).st hq7 (by decide) h.qs.lq 1 _
end
attribute [local go_sem ↓] Go.wp_at_zero Go.wp_at_succ
theorem infoOp:(prog.info? 91).map (fun i=>(i.zero,i.size,i.bytes))=some (some (.agg #[.slice none 0 0,.pointer none]),2,32):=by kernel_rfl
theorem infoFr:(prog.info? 112).map (fun i=>(i.zero,i.size,i.bytes))=some (some (.agg #[.string ⟨#[]⟩,.pointer none]),2,24):=by kernel_rfl
theorem OX{a b:Value}(h1:a.oneCell'=true)(h2:b.oneCell'=true):∀u∈[a,b],u.oneCell'=true:=by
 intro u hu;simp at hu;rcases hu with rfl|rfl<;>assumption
theorem Fu{l:List Nat}{i k:Nat}(h:l[i]?=some k):i<l.length:=by
 rcases Nat.lt_or_ge i l.length with a|a
 ·exact a
 ·rw[List.getElem?_eq_none a]at h;cases h
section
variable {w:World} {B0 p b q G:Nat} {s:St} {vO vF:Value} {LO:List GY} {fr:List CS} {parts:List Ai} {ps:List Nat}
def Mr(w w':World)(B0 p b q G:Nat)(ps:List Nat)(r:Qy×St):Prop:=∃vO' vF' LO' new,QE w' B0 p b q G r.2 vO' vF' LO' r.1.frags r.1.parts (ps++new)/\LO'.map Prod.fst=r.1.ops/\FT B0 kR w w'
theorem Xf(h:QE w B0 p b q G s vO vF LO fr parts ps)(hn:ps.length+ln s<=100000)(hlo:LO.length<=100000)(hlf:fr.length<=100000):
 Calls prog 33 #[.pointer (some ⟨p,0,none⟩)] w fun e w'=>e=.returned (.tuple #[])/\Mr w w' B0 p b q G ps (Cd ⟨LO.map Prod.fst,fr,parts⟩ s):=by
 obtain⟨i0,hi,hz0,hz1,hz2⟩:=info_parts infoOp;obtain⟨i1,hj,hy0,hy1,hy2⟩:=info_parts infoFr;have E0:=Aa h;have hB:=h.qs.lt;have hpa:=h.qs.pa;have cp:=Ac hpa;have lp:=Ab hpa;obtain⟨aO,cO,rfl⟩:=An h.o;obtain⟨aF,cF,rfl⟩:=An h.f;have HNP:=Aa h.n;have HQ:=Aa (Cd.eq_1 ⟨LO.map Prod.fst,fr,parts⟩ s);generalize Cd ⟨LO.map Prod.fst,fr,parts⟩ s=FF at*;have HSE:=Aa (GS w b G s 14 h.qs.rd);have KK:=Aa (fun(X Y:World) (hk:Ag b X Y) (hx:QE X B0 p b q G s (.slice aO LO.length cO) (.slice aF fr.length cF) LO fr parts ps)=>(hx.qs.ft hk hx.qs.lt).mono (K':=kR) (by decide));clear h hpa;cases e14:Ad s 14
 rotate_left
 ·rw[e14]at HSE HQ
  have HQ2:=Aa (show FF=(⟨LO.map Prod.fst++[([],parts.length)],fr,parts++(BA 11 parts.length 0 ⟨#[]⟩ s).1⟩,(BA 11 parts.length 0 ⟨#[]⟩ s).2)from HQ.o);rw[<-HNP.o]at HQ2;have HPC:=Aa (fun W (hW:QS W B0 p b q G s 0 (.slice aO LO.length cO) (.slice aF fr.length cF) ps)=>NN 11 0 (by decide) (by decide) (by decide) W ps ⟨#[]⟩ s hn hW);generalize BA 11 ps.length 0 ⟨#[]⟩ s=pr at*;obtain⟨Ps,s5⟩:=pr;simp only[]at HPC HQ2;clear HQ e14;go_enter func33,ntmps33;go_wp2_with fail;refine HSE.o.mono ?_;rintro _ w1 ⟨rfl,b1⟩;have q1:=E0.o.be b1;have E1:=Aa q1;have F1:=Aa (show FT B0 kR w w1 from FT.of_below b1 hB);obtain⟨vP1,hq1,_⟩:=q1.qs.qy;have cq1:=Ac hq1;have fq1:=Am hq1;have lq1:=Ab hq1;have lp1:=Ab q1.qs.pa;clear b1 q1 hq1;go_wp2_with fail;go_region_law (first
   |(refine step_append_lies _ (by rfl) _ _ _ (by rfl) B0 91 i0 _ 2 32 underlying76 hi hz0 hz1 hz2 rfl (by decide) _ _ _ (by rfl) (hO6.alloc _) ⟨w6.heap.size,0,none⟩ 1 1 [.slice none 0 0,.pointer (some ⟨k,0,none⟩)] (by rfl) (by rfl) (Cs _ _ _ _ (by simp)) (OX rfl rfl) (by decide) (by unfold maxLen;omega) (by omega) (by simp;omega) (w6.heap.size+1) (by simp) ?_;intro g cap w7 vJ hgrow hat hg7;have g7:=Jp hO6 hgrow hq6 (by decide);have e7:=Ac g7;have f7:=Am g7;have l7:=Ab g7)
   |(go_simp;go_at_call 64;refine(HPC.o _ ?_).mono ?_;(first|exact E1.o.dr.qs|exact E1.o.qs);rintro _ w6 ⟨new,k,rfl,hk,hnl,qs6,wJ,pp6⟩;unfold pV;have ft6:FT B0 kQ w1 w6:=(by first|exact wJ|exact(FT.refl B0 kQ w1).dr.trans wJ);have q6:=E1.o.ft qs6 ft6 hnl pp6;have hO6:=q6.o;obtain⟨vP,hq6,hq6'⟩:=q6.qs.qy;have c6:=Ac hq6;have l6:=Ab hq6;have hB6:=q6.qs.lt))
  all_goals(
   have hA:=q6.addOp (x:=(([],ps.length),.slice none 0 0)) hgrow vJ hk ⟨uA _ _ _ _,tU _,Fu hk⟩;have HX:=Aa (show Mr w _ B0 p b q G ps FF from by rw[HQ2.o];exact⟨_,_,_,new,hA.1,by simp,(F1.o.trans (ft6.mono (by decide))).trans hA.2⟩);clear hgrow vJ hO6 g7 q6 qs6 ft6 wJ pp6 hA hq6 hq6';go_wp2_with fail;go_end0;exact⟨rfl,HX.o⟩)
 ·rw[e14]at HSE HQ
  have HTQ:=Aa (fun W (hW:PS W b G s)=>Lf W b G s KA hW);have HTF:=Aa (fun W (hW:PS W b G s)=>Lf W b G s Kz hW);have HQ:=Aa (show FF=(if Bn s KA=true then(⟨LO.map Prod.fst++[(EM parts.length (tl s)).1],fr,parts++(EM parts.length (tl s)).2.1⟩,(EM parts.length (tl s)).2.2)else if Bn s Kz=true then(⟨LO.map Prod.fst,fr++[(EK parts.length (tl s)).1],parts++(EK parts.length (tl s)).2.1⟩,(EK parts.length (tl s)).2.2)else(⟨LO.map Prod.fst,fr,parts⟩,none))from HQ.o);clear e14;cases eq:Bn s KA
  rotate_left
  ·have hlt:=LM s KA eq
   have HTQ:=Aa (fun W (hW:PS W b G s)=>(show Calls prog 65 _ W (fun e w'=>e=.returned (.bool true)/\PS w' b G (tl s)/\Ag b W w')from by have:=HTQ.o W hW;rw[eq]at this;exact this));rw[eq]at HQ;have HQ2:=Aa (show FF=(⟨LO.map Prod.fst++[(EM parts.length (tl s)).1],fr,parts++(EM parts.length (tl s)).2.1⟩,(EM parts.length (tl s)).2.2)from HQ.o);rw[<-HNP.o]at HQ2;clear HQ HTF eq;generalize tl s=s1 at*;have HPC:=Aa (fun W (hW:QS W B0 p b q G s1 0 (.slice aO LO.length cO) (.slice aF fr.length cF) ps)=>pD hW (by omega));have HN:=Aa (show(EM ps.length s1).1.2=ps.length from by rw[Mc]);generalize EM ps.length s1=pr at*;obtain⟨⟨vars,nx⟩,Ps,s5⟩:=pr;have hnx:nx=ps.length:=HN.o;subst hnx;simp only[]at HPC HQ2;go_enter func33,ntmps33;go_wp2_with fail;refine HSE.o.mono ?_;rintro _ w1 ⟨rfl,b1⟩;have q1:=E0.o.be b1;have EE1:=Aa q1;have F1:=Aa (show FT B0 kR w w1 from FT.of_below b1 hB);have cp1:=Ac q1.qs.pa;have lp1:=Ab q1.qs.pa;clear b1 q1;go_wp2_with fail;refine(HTQ.o _ EE1.o.qs.rd).mono ?_;rintro _ w2 ⟨rfl,h2,k2⟩;have q2:=EE1.o.call h2 k2;have E1:=Aa q2;have F2:=Aa (F1.o.trans (KK.o _ _ k2 EE1.o));obtain⟨vP1,hq1,_⟩:=q2.qs.qy;have cq1:=Ac hq1;have fq1:=Am hq1;have lq1:=Ab hq1;have lp2:=Ab q2.qs.pa;clear h2 k2 q2 hq1;go_wp2_with fail;go_region_law (first
    |(refine step_append_lies _ (by rfl) _ _ _ (by rfl) B0 91 i0 _ 2 32 underlying76 hi hz0 hz1 hz2 rfl (by decide) _ _ _ (by rfl) (hO6.alloc _) ⟨w6.heap.size,0,none⟩ 1 1 [.slice aV vars.length cV,.pointer (some ⟨k,0,none⟩)] (by rfl) (by rfl) (Cs _ _ _ _ (by simp)) (OX rfl rfl) (by decide) (by unfold maxLen;omega) (by omega) (by simp;omega) (w6.heap.size+1) (by simp) ?_;intro g cap w7 vJ hgrow hat hg7;have g7:=Jp hO6 hgrow hq6 (by decide);have e7:=Ac g7;have f7:=Am g7;have l7:=Ab g7)
    |(go_simp;go_at_call 66;refine(HPC.o _ ?_).mono ?_;(first|exact E1.o.dr.qs|exact E1.o.qs);rintro _ w6 ⟨new,k,vV,rfl,hvo,hvl,hk,hnl,qs6,wJ,pp6⟩;obtain⟨aV,cV,rfl⟩:=An hvo;unfold pV;have ft6:FT B0 kQ w2 w6:=(by first|exact wJ|exact(FT.refl B0 kQ w2).dr.trans wJ);have q6:=E1.o.ft qs6 ft6 hnl pp6;have hO6:=q6.o;obtain⟨vP,hq6,hq6'⟩:=q6.qs.qy;have c6:=Ac hq6;have l6:=Ab hq6;have hB6:=q6.qs.lt))
   all_goals(
    have hA:=q6.addOp (x:=((vars,ps.length),.slice aV vars.length cV)) hgrow vJ hk ⟨Fw hvo E1.o.qs.lt,hvl,Fu hk⟩;have HX:=Aa (show Mr w _ B0 p b q G ps FF from by rw[HQ2.o];exact⟨_,_,_,new,hA.1,by simp,(F2.o.trans (ft6.mono (by decide))).trans hA.2⟩);clear hgrow vJ hO6 g7 q6 qs6 ft6 wJ pp6 hA hq6 hq6' hvo;go_wp2_with fail;go_end0;exact⟨rfl,HX.o⟩)
  ·rw[eq]at HQ
   have HTQ:=Aa (fun W (hW:PS W b G s)=>(show Calls prog 65 _ W (fun e w'=>e=.returned (.bool false)/\PS w' b G s/\Ag b W w')from by have:=HTQ.o W hW;rw[eq]at this;exact this));cases ef:Bn s Kz
   rotate_left
   ·have hlt:=LM s Kz ef
    have HTF:=Aa (fun W (hW:PS W b G s)=>(show Calls prog 65 _ W (fun e w'=>e=.returned (.bool true)/\PS w' b G (tl s)/\Ag b W w')from by have:=HTF.o W hW;rw[ef]at this;exact this));rw[ef]at HQ;have HQ2:=Aa (show FF=(⟨LO.map Prod.fst,fr++[(EK parts.length (tl s)).1],parts++(EK parts.length (tl s)).2.1⟩,(EK parts.length (tl s)).2.2)from HQ.o);rw[<-HNP.o]at HQ2;clear HQ eq ef;generalize tl s=s1 at*;have HPC:=Aa (fun W (hW:QS W B0 p b q G s1 0 (.slice aO LO.length cO) (.slice aF fr.length cF) ps)=>pB hW (by omega));have HN:=Aa (show(EK ps.length s1).1.2=ps.length from rfl);generalize EK ps.length s1=pr at*;obtain⟨⟨nme,nx⟩,Ps,s5⟩:=pr;have hnx:nx=ps.length:=HN.o;subst hnx;simp only[]at HPC HQ2;go_enter func33,ntmps33;go_wp2_with fail;refine HSE.o.mono ?_;rintro _ w1 ⟨rfl,b1⟩;have q1:=E0.o.be b1;have EE1:=Aa q1;have F1:=Aa (show FT B0 kR w w1 from FT.of_below b1 hB);have cp1:=Ac q1.qs.pa;have lp1:=Ab q1.qs.pa;clear b1 q1;go_wp2_with fail;refine(HTQ.o _ EE1.o.qs.rd).mono ?_;rintro _ w2 ⟨rfl,h2,k2⟩;have q2:=EE1.o.call h2 k2;have E2:=Aa q2;have F2:=Aa (F1.o.trans (KK.o _ _ k2 EE1.o));have cp2:=Ac q2.qs.pa;have lp2:=Ab q2.qs.pa;clear h2 k2 q2;go_wp2_with fail;refine(HTF.o _ E2.o.qs.rd).mono ?_;rintro _ w3 ⟨rfl,h3,k3⟩;have q3:=E2.o.call h3 k3;have E1:=Aa q3;have F3:=Aa (F2.o.trans (KK.o _ _ k3 E2.o));obtain⟨vP1,hq1,_⟩:=q3.qs.qy;have cq1:=Ac hq1;have fq1:=Am hq1;have lq1:=Ab hq1;have lp3:=Ab q3.qs.pa;clear h3 k3 q3 hq1;go_wp2_with fail;go_region_law (first
     |(refine step_append_lies _ (by rfl) _ _ _ (by rfl) B0 112 i1 _ 2 24 underlying77 hj hy0 hy1 hy2 rfl (by decide) _ _ _ (by rfl) (hO6.alloc _) ⟨w6.heap.size,0,none⟩ 1 1 [.string nme,.pointer (some ⟨k,0,none⟩)] (by rfl) (by rfl) (Cs _ _ _ _ (by simp)) (OX rfl rfl) (by decide) (by unfold maxLen;omega) (by omega) (by simp;omega) (w6.heap.size+1) (by simp) ?_;intro g cap w7 vJ hgrow hat hg7;have g7:=Jp hO6 hgrow hq6 (by decide);have e7:=Ac g7;have f7:=Am g7;have l7:=Ab g7)
     |(go_simp;go_at_call 67;refine(HPC.o _ ?_).mono ?_;(first|exact E1.o.dr.qs|exact E1.o.qs);rintro _ w6 ⟨new,k,rfl,hk,hnl,qs6,wJ,pp6⟩;unfold pV;have ft6:FT B0 kQ w3 w6:=(by first|exact wJ|exact(FT.refl B0 kQ w3).dr.trans wJ);have q6:=E1.o.ft qs6 ft6 hnl pp6;have hO6:=q6.f;obtain⟨vP,hq6,hq6'⟩:=q6.qs.qy;have c6:=Ac hq6;have l6:=Ab hq6;have hB6:=q6.qs.lt))
    all_goals(
     have hA:=q6.addFr (x:=(nme,ps.length)) hgrow vJ hk (Fu hk);have HX:=Aa (show Mr w _ B0 p b q G ps FF from by rw[HQ2.o];exact⟨_,_,_,new,hA.1,rfl,(F3.o.trans (ft6.mono (by decide))).trans hA.2⟩);clear hgrow vJ hO6 g7 q6 qs6 ft6 wJ pp6 hA hq6 hq6';go_wp2_with fail;go_end0;exact⟨rfl,HX.o⟩)
   ·rw[ef]at HQ
    have HTF:=Aa (fun W (hW:PS W b G s)=>(show Calls prog 65 _ W (fun e w'=>e=.returned (.bool false)/\PS w' b G s/\Ag b W w')from by have:=HTF.o W hW;rw[ef]at this;exact this));have HQ2:=Aa (show FF=(⟨LO.map Prod.fst,fr,parts⟩,none)from HQ.o);clear HQ eq ef;go_enter func33,ntmps33;go_wp2_with fail;refine HSE.o.mono ?_;rintro _ w1 ⟨rfl,b1⟩;have q1:=E0.o.be b1;have EE1:=Aa q1;have F1:=Aa (show FT B0 kR w w1 from FT.of_below b1 hB);have cp1:=Ac q1.qs.pa;have lp1:=Ab q1.qs.pa;clear b1 q1;go_wp2_with fail;refine(HTQ.o _ EE1.o.qs.rd).mono ?_;rintro _ w2 ⟨rfl,h2,k2⟩;have q2:=EE1.o.call h2 k2;have E2:=Aa q2;have F2:=Aa (F1.o.trans (KK.o _ _ k2 EE1.o));have cp2:=Ac q2.qs.pa;have lp2:=Ab q2.qs.pa;clear h2 k2 q2;go_wp2_with fail;refine(HTF.o _ E2.o.qs.rd).mono ?_;rintro _ w3 ⟨rfl,h3,k3⟩;have q3:=E2.o.call h3 k3;have E3:=Aa q3;have F3:=Aa (F2.o.trans (KK.o _ _ k3 E2.o));have cp3:=Ac q3.qs.pa;have lp3:=Ab q3.qs.pa;have HF:=Aa (FO w3 b G s q3.qs.rd);clear h3 k3 q3;go_wp2_with fail;refine HF.o.mono ?_;rintro _ w4 ⟨rfl,h4,k4⟩;have HX:=Aa (show Mr w w4 B0 p b q G ps FF from by rw[HQ2.o];exact⟨_,_,_,[],by rw[List.append_nil];exact E3.o.call h4 k4,rfl,F3.o.trans (KK.o _ _ k4 E3.o)⟩);go_wp2_with fail;go_end0;exact⟨rfl,HX.o⟩
end
theorem oM{sel:Nat->St->Aq×List Ai×St}(hs:Mu sel)(n d:Nat)(typ:vD)(s:St):ln (FB sel n d typ s).2<=ln (nK (Bz (d+1) s) 14):=by
 unfold FB;have h2:=hs (n+1) (nK (Bz (d+1) s) 14);have h3:=RQ hs 801 (n+1+(sel (n+1) (nK (Bz (d+1) s) 14)).2.1.length) (sel (n+1) (nK (Bz (d+1) s) 14)).2.2;have h4:=Ft (Ch sel 801 (n+1+(sel (n+1) (nK (Bz (d+1) s) 14)).2.1.length) (sel (n+1) (nK (Bz (d+1) s) 14)).2.2).2.2 15;simp only[];omega
theorem oH(n:Nat)(typ:vD)(s:St)(h:Ad s 14=true):ln (BA 11 n 0 typ s).2<ln s:=by
 have h1:=oM (RP (Pe 10 1)) n 0 typ s;have h2:Bz 1 s=s:=rfl;rw[Nat.zero_add,h2]at h1;have h3:=Rh s 14 (by decide) h;exact Nat.lt_of_le_of_lt h1 h3
theorem oG(n:Nat)(typ:vD)(s:St):1<=(BA 11 n 0 typ s).1.length/\(BA 11 n 0 typ s).1.length+ln (BA 11 n 0 typ s).2<=ln s+1:=Pe 11 0 n typ s
theorem WQ(q:Qy)(s:St):(Cd q s).1.parts.length+ln (Cd q s).2<=q.parts.length+ln s+1/\ln (Cd q s).2<=ln s/\(Cf s=false->ln (Cd q s).2<ln s)/\(Cd q s).1.ops.length<=q.ops.length+1/\(Cd q s).1.frags.length<=q.frags.length+1:=by
 have H11:=oG;have H11b:=oH;unfold Cd;unfold Iw;cases e14:Ad s 14
 rotate_left
 ·have h1:=H11 q.parts.length ⟨#[]⟩ s
  have h2:=H11b q.parts.length ⟨#[]⟩ s e14;generalize BA 11 q.parts.length 0 ⟨#[]⟩ s=pr at*;rw[uC rfl];simp only[uE,List.length_singleton];omega
 rw[uB (by decide)];cases eq:Bn s KA
 rotate_left
 ·have h0:=LM s KA eq
  rw[uC rfl,Mc];have h1:=LN (tl s) (Ad (tl s) 1);have h2:=UZ (mayT (tl s) (Ad (tl s) 1));generalize Gu (mayT (tl s) (Ad (tl s) 1))=ov at*;have h3:=H11 q.parts.length ⟨#[]⟩ ov.2;generalize BA 11 q.parts.length 0 ⟨#[]⟩ ov.2=pr at*;simp only[uE,List.length_singleton];omega
 rw[uB (by decide)];cases ef:Bn s Kz
 rotate_left
 ·have h0:=LM s Kz ef
  rw[uC rfl];unfold EK Iw;simp only[];have h1:ln (EL (tl s))<=ln (tl s):=by
   unfold EL;split
   ·simp[ln]
   ·exact tL _
  have h2:=AZ (EL (tl s));have h3:=Ri (nmT (EL (tl s))) Dl;have h4:=AZ (nW (nmT (EL (tl s))) Dl);have h5:=H11 q.parts.length (nm (nW (nmT (EL (tl s))) Dl)) (nmT (nW (nmT (EL (tl s))) Dl));generalize BA 11 q.parts.length 0 (nm (nW (nmT (EL (tl s))) Dl)) (nmT (nW (nmT (EL (tl s))) Dl))=pr at*;simp only[uE,List.length_singleton];omega
 ·rw[uB (by decide)]
  have h0:ln (none:St)=0:=rfl;simp only[];refine⟨by omega,by omega,fun h=>?_,by omega,by omega⟩;have:=Rj s h;omega
theorem oE(f:Nat)(q:Qy)(s:St)(h:Cf s=true):FA f q s=(q,s):=by
 cases f with
 |zero=>rfl
 |succ f=>rw[FA,uC h]
structure EQ(X:World)(B0 q:Nat)(Q:Qy)(ps:List Nat):Prop where
 ex:∃vO vF vP,∃LO:List GY,X.heap[q]?=some (.cells #[vO,vF,vP] 80 (0,0))/\X.ownsRow B0 89 1 vP ps.length (ps.map pV)/\LO.map Prod.fst=Q.ops/\X.ownsRow B0 91 2 vO LO.length (LO.flatMap (oL ps))/\(∀x∈LO,PH X B0 ps.length x)/\X.ownsRow B0 112 2 vF Q.frags.length (Q.frags.flatMap (Hl ps))
 ff:∀x∈Q.frags,x.2<ps.length
 n:ps.length=Q.parts.length
 pt:Bh X B0 ps 0 Q.parts
 lq:B0<=q
 l1:Q.ops.length<=2000
 l2:Q.frags.length<=2000
 l3:ps.length<=2000
theorem pF(x:vD)(w:World)(hs:x.size<=maxLen):
 Calls prog 17 #[.string x] w fun e w'=>∃q ps,e=.returned (.tuple #[.pointer (some ⟨q,0,none⟩),.bool (Eb (BD (Af x)).2)])/\EQ w' w.heap.size q (BD (Af x)).1 ps/\vE w w':=by
 have hc:=Pg x w hs;have HQ:=Aa (BD.eq_1 (Af x));generalize BD (Af x)=FF at*;generalize Af x=s0 at*;go_enter func17,ntmps17;go_wp2_with fail;refine hc.mono ?_;clear hc;rintro e w1 ⟨b,G,rfl,hb,h1,hB⟩;have hws:=hB.size;have hl0:=h1.len;have hlt:=h1.lt;have E2:=Aa (show QE ((w1.alloc (.cells #[.slice none 0 0,.slice none 0 0,.slice none 0 0] 80)).alloc (.cells #[.pointer (some ⟨b,0,none⟩),.pointer (some ⟨w1.heap.size,0,none⟩),.int .i64 0] 100)) w.heap.size (w1.heap.size+1) b w1.heap.size G s0 (.slice none 0 0) (.slice none 0 0) [] [] [] []from
  ⟨⟨h1.below (IY w1 _ _),Mh _ _ _,⟨_,Lg _ _ _,uA _ _ _ _⟩,hb,by omega,by omega⟩,uA _ _ _ _,(fun x hx=>by cases hx),uA _ _ _ _,(fun x hx=>by cases hx),rfl,Bh.nil⟩)
 have HB2:=Aa (hB.trans ((IY w1 (.cells #[.slice none 0 0,.slice none 0 0,.slice none 0 0] 80) (.cells #[.pointer (some ⟨b,0,none⟩),.pointer (some ⟨w1.heap.size,0,none⟩),.int .i64 0] 100)).mono hB.size));have hd:=Aa (Xf E2.o (by simp;omega) (by simp) (by simp));have hlen:=WQ ⟨[],[],[]⟩ s0;clear h1 hB;simp only[List.map_nil]at hd;generalize Cd ⟨[],[],[]⟩ s0=cs at*;obtain⟨⟨o1,fr1,pt1⟩,s1⟩:=cs;simp only[List.length_nil]at hlen hd HQ;go_wp2_with fail;refine hd.o.mono ?_;rintro _ w2 ⟨rfl,vO1,vF1,LO1,ps1,e3,hL1,f3⟩;rw[List.nil_append]at e3;have E3:=Aa e3;have HB3:=Aa (HB2.o.trans f3.below);have hL1':LO1.map Prod.fst=o1:=hL1;subst hL1';have hll1:LO1.length<=1:=by have:=hlen.2.2.2.1;simpa using this
 have hpn:=e3.n;simp only[]at hpn;clear e3 hL1 f3 hd E2 HB2;go_wp2_with fail;go_loopg [] (ln s1) (fun m wr=>∃(vO vF:Value) (LO:List GY) (fr:List CS) (parts:List Ai) (ps:List Nat) (s':St) (f:Nat),ln s'<=m/\ln s'<=f/\QE wr w.heap.size (w1.heap.size+1) b w1.heap.size G s' vO vF LO fr parts ps/\vE w wr/\LO.length+ln s'<=803/\fr.length+ln s'<=803/\ps.length+2*ln s'<=1610/\FF=FA f ⟨LO.map Prod.fst,fr,parts⟩ s')
 case atStart=>exact⟨vO1,vF1,LO1,fr1,pt1,ps1,s1,801,tL _,by omega,E3.o,HB3.o,by omega,by omega,by omega,HQ.o⟩
 case round=>
  obtain⟨vO,vF,LO,fr,parts,ps,s',f,hlk,hlf,er,hb',hlo,hlfr,hlp,hrel⟩:=hrel;have ER:=Aa er;have HBW:=Aa hb';have HM:=Aa hrel;have cp3:=Ac er.qs.pa;have lp3:=Ab er.qs.pa;have hc:=Jq wr b G s' er.qs.rd;have hpn':=er.n;clear er hb' hrel E3 HB3 HQ;cases hx:Cf s'
  ·rw[hx]at hc
   have hpos:=Rj s' hx;obtain⟨f',rfl⟩:∃f',f=f'+1:=⟨f-1,by omega⟩;have HE:=Aa (show FF=FA f' (Cd ⟨LO.map Prod.fst,fr,parts⟩ s').1 (Cd ⟨LO.map Prod.fst,fr,parts⟩ s').2 from by rw[HM.o,FA,uB (by rw[hx];simp)]);have hd:=Aa (Xf ER.o (by omega) (by omega) (by omega));have hlen:=WQ ⟨LO.map Prod.fst,fr,parts⟩ s';have hlt2:=hlen.2.2.1 hx;simp only[uP]at hlen;clear hx HM;generalize Cd ⟨LO.map Prod.fst,fr,parts⟩ s'=cs at*;obtain⟨⟨o2,fr2,pt2⟩,s2⟩:=cs;simp only[]at hd hlen HE hlt2;go_wp2_with fail;refine hc.mono ?_;rintro _ w3 ⟨rfl,hw3⟩;have hw3:=hw3.symm;subst hw3;go_wp2_with fail;refine hd.o.mono ?_;rintro _ w4 ⟨rfl,vO2,vF2,LO2,new,e4,hL2,f4⟩;have hL2':LO2.map Prod.fst=o2:=hL2;subst hL2';have E4:=Aa e4;have HB4:=Aa (HBW.o.trans f4.below);have hpn2:=e4.n;simp only[uP]at hlen hpn2;clear e4 f4 hd hL2;go_wp2_with fail;go_roundg (ln s2)
   case measure=>omega
   case rel=>exact⟨vO2,vF2,LO2,fr2,pt2,ps++new,s2,f',tL _,by omega,E4.o,HB4.o,by omega,by omega,by omega,HE.o⟩
  ·rw[hx]at hc
   have HE:=Aa (show FF=(⟨LO.map Prod.fst,fr,parts⟩,s')from by rw[HM.o,oE _ _ _ hx]);clear hx HM;go_wp2_with fail;refine hc.mono ?_;rintro _ w3 ⟨rfl,hw3⟩;have hw3:=hw3.symm;subst hw3;have HC:=Aa (fun(W:World) (hW:vE wr W)=>MQ W b G s' (ER.o.qs.rd.below hW));have FIN:=Aa (fun(Y:World) (hY:vE wr Y)=>(show EQ Y w.heap.size w1.heap.size ⟨LO.map Prod.fst,fr,parts⟩ ps from by
    have e:=ER.o.be hY;obtain⟨vP,h1,h2⟩:=e.qs.qy;exact⟨⟨vO,vF,vP,LO,h1,h2,rfl,e.o,e.oo,e.f⟩,e.ff,e.n,e.pt,e.qs.lq,by simp;omega,by show fr.length<=2000;omega,by omega⟩))
   go_wp2_with fail;go_region_with (go_at_call 35;refine(HC.o _ ?_).mono ?_;(first|exact(tM _ _).drew|exact tM _ _);rintro e w4 ⟨rfl,rfl⟩);all_goals(
    go_wp2_with fail;go_ret2;rw[HE.o];exact⟨_,ps,rfl,FIN.o _ (by first|exact(tM _ _).drew|exact tM _ _),by first|exact HBW.o.drew|exact HBW.o⟩)
end Go.Proofs.YtadneapobijejaaGreatDoor
