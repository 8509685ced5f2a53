import Derived.Test.YtogdodlibkckkaaGreatDoorZ15
import Derived.Test.YtogdodlibkckkaaGreatDoorZ07
import Derived.Deep.DeepCutAuto
namespace Go.Proofs.YtogdodlibkckkaaGreatDoor
set_option maxHeartbeats 20000000
set_option maxRecDepth 100000
open Go.RowKit Tryz
attribute [local go_sem ↓] Go.wp_at_zero Go.wp_at_succ
theorem infoPP:(prog.info? 120).map (fun i=>(i.zero,i.size,i.bytes))=some (some (.pointer none),1,8):=by kernel_rfl
theorem infoSel:(prog.info? 229).map (fun i=>(i.zero,i.size,i.bytes))=some (some (.agg #[.int .i64 0,.string ⟨#[]⟩,.string ⟨#[]⟩,.slice none 0 0,.slice none 0 0,.pointer none]),6,96):=by kernel_rfl
section
variable {w:World} {B0 p b q G d:Nat} {vO vF:Value} {ps:List Nat} {s:St}
theorem rV(c:Nat->St->As×List Ai×St)(b4:MO c)(typ:yF)(Q:QS w B0 p b q G s d vO vF ps)(hd:d<=100000)(du:ps.length+ln s<=100000)
 (b8:∀(W:World) (a5:List Nat) (a:St),ln a<=ln (nK (BB (d+1) s) 14)->a5.length+ln a<=100001->QS W B0 p b q G a (d+1) vO vF a5->Calls prog 151 #[.pointer (some ⟨p,0,none⟩)] W fun e w'=>Hp W w' B0 p b q G (d+1) vO vF a5 (c a5.length a) e):
 Calls prog 100 #[.pointer (some ⟨p,0,none⟩),.string typ] w fun e w'=>∃new k,e=.returned (pV k)/\(ps++new)[ps.length]?=some k/\new.length=(FK c ps.length d typ s).1.length/\QS w' B0 p b q G (FK c ps.length d typ s).2 d vO vF (ps++new)/\FT B0 kQ w w'/\Bl w' w.heap.size (ps++new) ps.length (FK c ps.length d typ s).1:=by
 have bM:=Aa b8;have bd:=Aa b4;clear b8 b4;have ds:=wV (FB (BB (d+1) s) 14) (Wg (d+1) s);have dt:ln s<=801:=Q.rd.len;have bI:=Aa (FK.eq_1 c ps.length d typ s);generalize FK c ps.length d typ s=bz at*;obtain⟨cX,cD,cU,cV,cW⟩:=info_parts infoPP;have ci:=Aa Q;have bj:=Q.lt;have dv:ps.length<=100000:=by omega
 obtain⟨dB,aL,bp⟩:=Q.qy;obtain⟨cn,cp,rfl⟩:=An bp;have bK:=Aa aL;have cO:=Ac Q.pa;have cR:=Ac aL;have aU:=Ak aL;have aa:=Ak Q.pa;have cP:=Ab Q.pa;have cS:=Ab aL;have bH:=Aa Q.pa;have bG:=Aa bp;clear Q aL bp;go_enter func100,ntmps100;go_upto_region 2 with fail;have bZ:(w.alloc (.cells #[.string typ,.int .i64 ps.length,.slice none 0 0] 223)).heap[w.heap.size]?=some (.cells #[.string typ,.int .i64 ps.length,.slice none 0 0] 223 (0,0)):=wX w _;have ba:=Aa bZ;have I:=Aa (ci.o.al (.cells #[.string typ,.int .i64 ps.length,.slice none 0 0] 223));have bC:=Aa ((FT.refl B0 kQ w).al bj (.cells #[.string typ,.int .i64 ps.length,.slice none 0 0] 223));have ad:=bG.o.alloc (.cells #[.string typ,.int .i64 ps.length,.slice none 0 0] 223);have ay:=(AJ w (.cells #[.string typ,.int .i64 ps.length,.slice none 0 0] 223) _ cP).trans bH.o;have U:=(AJ w (.cells #[.string typ,.int .i64 ps.length,.slice none 0 0] 223) _ cS).trans bK.o;clear bZ cO cR aU aa bK bH bG;generalize w.alloc (.cells #[.string typ,.int .i64 ps.length,.slice none 0 0] 223)=z at*;have cQ:=Ab ay;have bt:=Ab U;have bS:=Ac ay;have bT:=Ac U;have aU:=Ak U;have bn:=By ad U (by decide);have b5:=By ad ay (by decide);have c8:¬q=p:=fun e=>by rw[e,ay]at U;cases U
 have dy:¬p=q:=fun e=>c8 e.symm;have cG:=Ab ba.o;have cx:B0<=z.heap.size:=by omega
 go_cut [] (fun wc=>QS wc B0 p b q G s d vO vF (ps++[w.heap.size])/\FT B0 kQ w wc/\wc.heap[w.heap.size]?=some (.cells #[.string typ,.int .i64 ps.length,.slice none 0 0] 223 (0,0)))
 case first=>
  go_region_law (first|(refine step_append_lies _ (by rfl) _ _ _ (by rfl) B0 120 cX _ 1 8 underlying110 cD cU cV cW rfl (by decide) _ _ _ (by rfl) ((ad.alloc _).drew) ⟨z.heap.size,0,none⟩ 1 1 [.pointer (some ⟨w.heap.size,0,none⟩)] (by rfl) (by rfl) (Cz _ _ _ _ (by simp)) (fun u b9=>by simp at b9;subst b9;rfl) (by decide) (by unfold maxLen;omega) (by omega) (by simp;omega) (z.heap.size+1) (by simp) ?_;intro g cap w5 bq y aX dn;have df:w5.cell? ⟨q,2,none⟩=some (.slice cn ps.length cp):=(y.cell_far ⟨q,2,none⟩ (by simp;omega) (fun e=>bn e.symm)).trans ((((wR z.heap.size z).alloc (wQ _) _).drew.cell (show q<z.heap.size from bt)).trans (bT 2));have dz:w5.cell? ⟨p,1,none⟩=some (.pointer (some ⟨q,0,none⟩)):=(y.cell_far ⟨p,1,none⟩ (by simp;omega) (fun e=>b5 e.symm)).trans ((((wR z.heap.size z).alloc (wQ _) _).drew.cell (show p<z.heap.size by omega)).trans (bS 1));have dg:w5.frozen? ⟨q,2,none⟩=false:=(y.frozen_far ⟨q,2,none⟩ (by simp;omega) (fun e=>bn e.symm)).trans ((((wR z.heap.size z).alloc (wQ _) _).drew.frozen (show q<z.heap.size from bt)).trans (aU 2))));all_goals(
   have bQ:=AA.grown (B:=0) (K:=[215,174,171,112,223]) y ((ad.alloc _).drew) (by decide);have aG:AA 0 [215,174,171,112,223] z w5:=(((AA.alloc _).trans .drew).trans bQ);have aH:=aG.2 _ _ _ _ (wZ _) U (by decide);have aS:AA 0 [215,174,171,223] w5 (w5.setCell ⟨q,2,none⟩ (.slice (some ⟨g,0,none⟩) (ps.length+1) cap)):=AA.set aH (by decide) _ _;have aD:=Aa (show QS (w5.setCell ⟨q,2,none⟩ (.slice (some ⟨g,0,none⟩) (ps.length+1) cap)) B0 p b q G s d vO vF (ps++[w.heap.size])from
    ⟨(I.o.rd.typ aG (by decide) (by decide)).typ aS (by decide) (by decide),aS.2 _ _ _ _ (wZ _) (aG.2 _ _ _ _ (wZ _) ay (by decide)) (by decide),⟨_,AI aH 2 _,by rw[xY,xJ];exact Ds bq (By bq aH (by decide)) _ _⟩,I.o.lb,I.o.lp,I.o.lq⟩)
   have cj:=Aa (show FT B0 kQ w (w5.setCell ⟨q,2,none⟩ (.slice (some ⟨g,0,none⟩) (ps.length+1) cap))from
    (((bC.o.al bj _).dr).gr y (fun k b2=>.inl ⟨(ad.lt k b2).1,by obtain⟨de,cB⟩:=FG ((ad.alloc _).drew) k b2;exact⟨_,_,_,cB,by decide⟩⟩) bj).st aH (by decide) I.o.lq 2 _)
   have ck:=Aa (aS.2 _ _ _ _ (wZ _) (aG.2 _ _ _ _ (wZ _) ba.o (by decide)) (by decide));clear bQ aG aH aS bq y;go_wp2;go_meet;exact⟨aD.o,cj.o,ck.o⟩)
 case rest=>
 obtain⟨bw,bW,bm⟩:=hcut;have aR:=Aa bw;have bA:=Aa bW;have bD:=Aa bm;have aZ:=bw.pa;have cq:=Ac aZ;have cw:=Ak aZ;have cJ:=Ab aZ;have cI:=Ab bm;have c6:¬w.heap.size=p:=by omega
 clear bw bW bm aZ I bC ba ad ay U cQ bt bS bT aU bn b5 cx cG
 go_upto_if 44 with fail
 have M:=Aa (aR.o.setd (d+1));have a8:=Aa (bA.o.st aR.o.pa (by decide) aR.o.lp 2 (.int .i64 ((d+1:Nat):Int)));have bb:=Aa (Ed (i:=2) bD.o c6 (.int .i64 ((d+1:Nat):Int)));have bl:((d:Int)+1)=((d+1:Nat):Int):=by omega
 rw[bl];generalize wc.setCell ⟨p,2,none⟩ (.int .i64 ((d+1:Nat):Int))=cl at*;have dc:=Aa bl;have aB:=Aa (BB.eq_1 (d+1) s);clear aR bA bD cq cw cJ cI bl;have br:=M.o.pa;have cr:=Ac br;have cK:=Ab br;clear br;go_cut [] (fun bx=>QS bx B0 p b q G (BB (d+1) s) (d+1) vO vF (ps++[w.heap.size])/\FT B0 kQ w bx/\bx.heap[w.heap.size]?=some (.cells #[.string typ,.int .i64 ps.length,.slice none 0 0] 223 (0,0)))
 case first=>
  generalize BB (d+1) s=a7 at*;by_cases bU:10<d+1
  ·rw[xH bU]at aB
   have T:decide ((10:Int)<((d+1:Nat):Int))=true:=by simp;omega
   have aC:=Aa (Gc cl b G s M.o.rd);go_wp2_with fail;refine aC.o.mono ?_;rintro _ w4 ⟨rfl,aV,V⟩;go_wp2;go_meet;rw[aB.o];exact⟨M.o.call aV V,a8.o.trans (M.o.ft V M.o.lt),(M.o.ft V M.o.lt).at bb.o (by decide)⟩
  ·rw[xG bU]at aB
   have T:decide ((10:Int)<((d+1:Nat):Int))=false:=by simp;omega
   go_wp2;go_meet;rw[aB.o];exact⟨M.o,a8.o,bb.o⟩
 case rest=>
 obtain⟨a6,bX,b3⟩:=hcut;have am:=Aa (fun W a (cA:PS W b G a)=>Cj W b G a 14 cA);have bf:=Aa (am.o wc (BB (d+1) s) a6.rd);have h:=a6.pa;have aq:=Ac h;have cL:=Ab h;have ap:=Aa a6;have bB:=Aa bX;have bE:=Aa b3;clear a6 bX b3 h M a8 bb cr cK aB am;have aN:=Aa (show mustT (BB (d+1) s) (Ae (BB (d+1) s) 14)=nK (BB (d+1) s) 14 from rfl);rw[aN.o]at bf;generalize nK (BB (d+1) s) 14=s1 at*;generalize BB (d+1) s=a7 at*;generalize (Ay a7 14).k=c5 at*;generalize (Ay a7 14).n=c7 at*;generalize (Ay a7 14).s=c9 at*;go_wp2_with fail;refine bf.o.mono ?_;rintro _ w4 ⟨rfl,aV,V⟩;have bP:=Aa (show Ea w w4 B0 p b q G (d+1) vO vF typ (ps++[w.heap.size]) ps.length w.heap.size [] [] [] (.slice none 0 0) s1 from
  ⟨by rw[List.append_nil];exact ap.o.call aV V,bB.o.trans (ap.o.ft V ap.o.lt),(ap.o.ft V ap.o.lt).at bE.o (by decide),xF _ _ _ _,(fun x cT=>by cases cT),rfl,(fun j P cE=>by simp at cE),rfl⟩)
 clear aV V bf ap bB bE aq cL aN;obtain⟨ca,b1,cc,cd,ce⟩:=info_parts infoSel;obtain⟨aP,aW⟩:∃aP:List SX,aP=[]:=⟨_,rfl⟩;obtain⟨bi,bk⟩:∃bi:List Ai,bi=[]:=⟨_,rfl⟩;obtain⟨aA,aY⟩:∃aA:List Nat,aA=[]:=⟨_,rfl⟩;obtain⟨v0,L⟩:∃v0,Ea w w4 B0 p b q G (d+1) vO vF typ (ps++[w.heap.size]) ps.length w.heap.size aP bi aA v0 s1:=by rw[aW,bk,aY];exact⟨_,bP.o⟩
 obtain⟨cm,c0,rfl⟩:=An L.own;have a9:=Aa (xZ aW (xZ bk aY));have cy:aP.length<=0:=by rw[aW];simp
 have az:(ps++[w.heap.size]++aA).length=ps.length+1:=by rw[aY];simp
 have I:=Aa (fun W=>bM.o W (ps++[w.heap.size]++aA) s1 (wQ _) (by rw[az];omega));rw[az]at I;have bc:=Aa (bd.o (ps.length+1) s1);clear aW bk aY bP az;have R:=L.blk;have bR:=Ac R;have bV:=Ak R;have a3:=Ab R;have h:=L.qs.pa;have aq:=Ac h;have a4:=Ab h;have ao:=Aa L;clear R h L;generalize b6:c (ps.length+1) s1=r at*;obtain⟨⟨E,F,H,args,A,ag⟩,aQ,X⟩:=r;have ch:=Aa b6;simp only[]at bc;clear b6;have dx:w.heap.size<w4.heap.size:=a3;have dw:w.heap.size<=w4.heap.size:=Nat.le_of_lt a3;go_upto_region 7 with fail;go_cut [] (fun wc=>∃(l:List SX) (Ps:List Ai) (new:List Nat) (v:Value),Ea w wc B0 p b q G (d+1) vO vF typ (ps++[w.heap.size]) ps.length w.heap.size l Ps new v X/\l.map Prod.fst=[⟨E,F,H,args,A,ag⟩]/\Ps=aQ)
 case first=>
  go_region_law (first
   |(refine step_append_lies _ (by rfl) _ _ _ (by rfl) w.heap.size 229 ca _ 6 96 underlying221 b1 cc cd ce rfl (by decide) _ _ _ (by rfl) (ae.alloc _) ⟨w6.heap.size,0,none⟩ 1 1 [.int .i64 E,.string F,.string H,.slice Y args.length c1,.slice Z A.length c2,.pointer aa] (by rfl) (by rfl) (Cz _ _ _ _ (by simp)) (PO rfl rfl rfl rfl rfl rfl) (by decide) (by unfold maxLen;omega) (by omega) (by simp;omega) (w6.heap.size+1) (by simp) ?_;intro g cap w7 aK y aX cC;have C:=Jz ae y S (by decide);have cu:=Ac C;have cv:=Ak C;have cZ:=Ab C)
   |(go_simp;go_at_call 151;refine(I.o _ ?_).mono ?_;(first|exact ao.o.qs.dr|exact ao.o.qs);intro ct w6 aI;obtain⟨bv,Y,c1,Z,c2,aa,rfl,bs,ax,aJ,ah,ab,aM⟩:=aI.shape;have O:FT B0 kQ w4 w6:=(by first|exact ab|exact(FT.refl B0 kQ w4).dr.trans ab);have S:=O.at ao.o.blk (by decide);have co:=Ac S;have cY:=Ab S;have ae:=ao.o.own6 O;have ai:=ah.pa;have db:=Ac ai;have da:=Ab ai;clear ai))
  all_goals(
   have aD:=Aa (ao.o.step (r:=(⟨E,F,H,args,A,ag⟩,aQ,X)) ax aJ ah O aM (by rw[show sL (ps++[w.heap.size]++aA++bv) ((⟨E,F,H,args,A,ag⟩:As),.slice Y args.length c1,.slice Z A.length c2)=[.int .i64 E,.string F,.string H,.slice Y args.length c1,.slice Z A.length c2,.pointer aa]from by unfold sL;rw[bs]];exact aK) y aX C);clear y aK aJ ah O ab aM S ae C aI;go_wp2;go_meet;refine⟨_,_,_,_,aD.o,?_,?_⟩
   ·rw[a9.o.1];rfl
   ·rw[a9.o.2.1];rfl)
 case rest=>
 obtain⟨bh,aF,c4,v1,bu,bo,rfl⟩:=hcut;have cz:bh.length=1:=by have:=congrArg List.length bo;simpa using this
 obtain⟨J,bg⟩:∃J:List As×List Ai×St,Hi (J=((⟨E,F,H,args,A,ag⟩:As)::(Cr c 801 (ps.length+1+aF.length) X).1,aF++(Cr c 801 (ps.length+1+aF.length) X).2.1,(Cr c 801 (ps.length+1+aF.length) X).2.2)):=⟨_,Aa rfl⟩;have bJ:=Aa (show bz=(⟨typ,J.1⟩::J.2.1,nK J.2.2 15)from by rw[bI.o,bg.o]);have bN:=Aa bu;have di:=bc.o.1;have cF:ln X<=801:=bu.qs.rd.len;have dj:bh.length<=1:=by omega
 have bF:=Aa bo;clear bI bo bu ch ao I bR bV a3 aq a4 cy a9 cz bc
 go_upto_block 0 with fail
 go_cut [] (fun wc=>∃(l:List SX) (Ps:List Ai) (new:List Nat) (v:Value) (t:St),Ea w wc B0 p b q G (d+1) vO vF typ (ps++[w.heap.size]) ps.length w.heap.size l Ps new v t/\l.length<=803/\J=(l.map Prod.fst,Ps,t))
 case first=>
  go_wp2;go_loopg [] (ln X) (fun m wr=>∃(l:List SX) (Ps:List Ai) (new:List Nat) (v:Value) (a:St) (f:Nat),ln a<=m/\ln a<=f/\ln a<=ln s1/\Ea w wr B0 p b q G (d+1) vO vF typ (ps++[w.heap.size]) ps.length w.heap.size l Ps new v a/\l.length+ln a<=803/\ps.length+1+Ps.length+ln a<=100001/\J=(l.map Prod.fst++(Cr c f (ps.length+1+Ps.length) a).1,Ps++(Cr c f (ps.length+1+Ps.length) a).2.1,(Cr c f (ps.length+1+Ps.length) a).2.2))
  case atStart=>exact⟨bh,aF,c4,v1,X,801,wQ _,cF,by omega,bN.o,by omega,by omega,by rw[bg.o,bF.o];rfl⟩
  case round=>
   obtain⟨l,Ps,new,v,a,f,dq,dp,cM,af,dl,dm,hrel⟩:=hrel;obtain⟨cm,c0,rfl⟩:=An af.own;have ak:=Aa hrel;have aO:=Aa af;have h:=af.qs.pa;have aq:=Ac h;have a4:=Ab h;have av:=Aa (JA wr b G a af.qs.rd);have aw:=Aa (Hg wr b G a 15 af.qs.rd);have ax:=af.nl;have az:(ps++[w.heap.size]++new).length=ps.length+1+Ps.length:=by simp[ax];omega
   clear af h hrel bN;cases N:Co a
   rotate_left
   ·rw[N]at av
    have aj:=Aa (show J=(l.map Prod.fst,Ps,a)from by rw[ak.o,SF c f _ a (by rw[N];rfl)];simp);clear aw ak N;go_wp2_with fail;refine av.o.mono ?_;rintro _ w5 ⟨rfl,D⟩;have D:=D.symm;subst D;go_wp2;go_meet;exact⟨l,Ps,new,_,a,aO.o,by omega,aj.o⟩
   ·rw[N]at av
    cases ar:Ae a 15
    rotate_left
    ·rw[ar]at aw
     have aj:=Aa (show J=(l.map Prod.fst,Ps,a)from by rw[ak.o,SF c f _ a (by rw[N,ar];rfl)];simp);clear ak N ar;go_wp2_with fail;refine av.o.mono ?_;rintro _ w5 ⟨rfl,D⟩;have D:=D.symm;subst D;go_wp2_with fail;refine aw.o.mono ?_;rintro _ w6 ⟨rfl,aT⟩;go_wp2;go_meet;exact⟨l,Ps,new,_,a,aO.o.be aT,by omega,aj.o⟩
    ·rw[ar]at aw
     have cN:=(bd.o (ps.length+1+Ps.length) a).2 N;have cH:=(bd.o (ps.length+1+Ps.length) a).1;obtain⟨au,rfl⟩:∃au,f=au+1:=⟨f-1,by omega⟩;have aj:=Aa (show J=(l.map Prod.fst++((c (ps.length+1+Ps.length) a).1::(Cr c au (ps.length+1+Ps.length+(c (ps.length+1+Ps.length) a).2.1.length) (c (ps.length+1+Ps.length) a).2.2).1),Ps++((c (ps.length+1+Ps.length) a).2.1++(Cr c au (ps.length+1+Ps.length+(c (ps.length+1+Ps.length) a).2.1.length) (c (ps.length+1+Ps.length) a).2.2).2.1),(Cr c au (ps.length+1+Ps.length+(c (ps.length+1+Ps.length) a).2.1.length) (c (ps.length+1+Ps.length) a).2.2).2.2)from by
      rw[ak.o,Cr,N,ar];rfl)
     have bL:=Aa (fun W=>bM.o W (ps++[w.heap.size]++new) a cM (by rw[az];omega));rw[az]at bL;clear ak N ar ax;generalize c (ps.length+1+Ps.length) a=r at*;obtain⟨⟨E,F,H,args,A,ag⟩,aQ,t⟩:=r;simp only[]at cN cH aj;go_wp2_with fail;refine av.o.mono ?_;rintro _ w5 ⟨rfl,D⟩;have D:=D.symm;subst D;go_wp2_with fail;refine aw.o.mono ?_;rintro _ w5 ⟨rfl,aT⟩;have a2:=aO.o.be aT;have R:=a2.blk;have bR:=Ac R;have bV:=Ak R;have a3:=Ab R;have h:=a2.qs.pa;have cs:=Ac h;have c3:=Ab h;have aE:=Aa a2;clear R h a2 aT aw av aO;go_wp2;go_region_law (first
      |(refine step_append_lies _ (by rfl) _ _ _ (by rfl) w.heap.size 229 ca _ 6 96 underlying221 b1 cc cd ce rfl (by decide) _ _ _ (by rfl) (ae.alloc _) ⟨w6.heap.size,0,none⟩ 1 1 [.int .i64 E,.string F,.string H,.slice Y args.length c1,.slice Z A.length c2,.pointer aa] (by rfl) (by rfl) (Cz _ _ _ _ (by simp)) (PO rfl rfl rfl rfl rfl rfl) (by decide) (by unfold maxLen;omega) (by omega) (by simp;omega) (w6.heap.size+1) (by simp) ?_;intro g cap w7 aK y aX cC;have C:=Jz ae y S (by decide);have cu:=Ac C;have cv:=Ak C;have cZ:=Ab C)
      |(go_simp;go_at_call 151;refine(bL.o _ ?_).mono ?_;(first|exact aE.o.qs.dr|exact aE.o.qs);intro ct w6 aI;obtain⟨bv,Y,c1,Z,c2,aa,rfl,bs,ax,aJ,ah,ab,aM⟩:=aI.shape;have O:FT B0 kQ w5 w6:=(by first|exact ab|exact(FT.refl B0 kQ w5).dr.trans ab);have S:=O.at aE.o.blk (by decide);have co:=Ac S;have cY:=Ab S;have ae:=aE.o.own6 O;have ai:=ah.pa;have db:=Ac ai;have da:=Ab ai;clear ai))
     all_goals(
      have aD:=Aa (aE.o.step (r:=(⟨E,F,H,args,A,ag⟩,aQ,t)) ax aJ ah O aM (by rw[show sL (ps++[w.heap.size]++new++bv) ((⟨E,F,H,args,A,ag⟩:As),.slice Y args.length c1,.slice Z A.length c2)=[.int .i64 E,.string F,.string H,.slice Y args.length c1,.slice Z A.length c2,.pointer aa]from by unfold sL;rw[bs]];exact aK) y aX C);clear y aK aJ ah O ab aM S ae C aI;go_wp2;go_roundg (ln t)
      case measure=>omega
      case rel=>exact⟨_,_,_,_,t,au,wQ _,by omega,by omega,aD.o,by simp;omega,by simp;omega,by rw[aj.o];simp[Nat.add_assoc]⟩)
 case rest=>
 obtain⟨l,Ps,new,v,t,a1,dk,b7⟩:=hcut;have am:=Aa (Cj wc b G t 15 a1.qs.rd);have h:=a1.qs.pa;have aq:=Ac h;have a4:=Ab h;have bO:=Aa a1;have cg:=Aa (show bz=(⟨typ,l.map Prod.fst⟩::Ps,nK t 15)from by rw[bJ.o,b7]);clear a1 h bJ bg b7 bF;have aN:=Aa (show mustT t (Ae t 15)=nK t 15 from rfl);rw[aN.o]at am;generalize nK t 15=dA at*;generalize (Ay t 15).k=c5 at*;generalize (Ay t 15).n=c7 at*;generalize (Ay t 15).s=c9 at*;go_wp2_with fail;refine am.o.mono ?_;rintro _ w5 ⟨rfl,bY,cb⟩;have L:=bO.o.call bY cb;have a0:=L.qs.pa;have cs:=Ac a0;have dh:=Ak a0;have c3:=Ab a0;have b0:((d+1:Nat):Int)-1=(d:Int):=by omega
 have dd:=Aa b0;have aC:=Aa (L.fin (by omega) d);have cf:=Aa L.nl;clear bY cb am bO aq a4 L a0 b0;go_wp2;go_ret;rw[cg.o];exact⟨w.heap.size::new,w.heap.size,rfl,by simp,by simp[cf.o],aC.o.1,aC.o.2.1,aC.o.2.2⟩
theorem Oq:∀(f d:Nat),1<=f->11<=d+f->d<=1000->∀(w:World) (ps:List Nat) (typ:yF) (s:St),ps.length+ln s<=100000->Oo w B0 p b q G d vO vF ps typ s (BD f ps.length d typ s)
 |0,_,c,_,_,_,_,_,_,_=>absurd c (by decide)
 |f+1,d,_,t,hd,w,ps,typ,s,j=>fun c=>by
  refine rV (EE (fun n typ s=>BD f n (d+1) typ s)) (SD (Qa f (d+1))) typ c (by omega) j (fun W l x g v k=>?_);refine rX (fun n typ s=>BD f n (d+1) typ s) k (fun h r m u=>?_);refine Oq f (d+1) ?_ (by omega) ?_ h l r m (by omega)
  ·rcases Nat.lt_or_ge 10 (d+1)with a|a
   ·have e:BB (d+1) s=none:=xH a
    rw[e]at g;have i:ln (nK none 14)=0:=rfl;omega
   ·omega
  ·rcases Nat.lt_or_ge 10 (d+1)with a|a
   ·have e:BB (d+1) s=none:=xH a
    rw[e]at g;have i:ln (nK none 14)=0:=rfl;omega
   ·omega
end
section
variable {w:World} {B0 p b q G:Nat} {vO vF:Value} {ps:List Nat} {s:St}
theorem rS(l:QS w B0 p b q G s 0 vO vF ps)(a8:ps.length+ln s<=100000):
 Calls prog 103 #[.pointer (some ⟨p,0,none⟩)] w fun e w'=>∃new k,e=.returned (.agg #[.string (EX ps.length s).1.1,pV k])/\(ps++new)[ps.length]?=some k/\new.length=(EX ps.length s).2.1.length/\QS w' B0 p b q G (EX ps.length s).2.2 0 vO vF (ps++new)/\FT B0 kQ w w'/\Bl w' w.heap.size (ps++new) ps.length (EX ps.length s).2.1:=by
 obtain⟨u,Q⟩:∃u:Value,u=.pointer (some ⟨q,0,none⟩):=⟨_,rfl⟩;obtain⟨v,R⟩:∃v:Value,v=.int .i64 (0:Nat):=⟨_,rfl⟩;have ak:=Aa (xZ Q R);have A:LQ w w p b G u v s:=by rw[Q,R];exact l.lq1
 have ai:=Aa l;have J:=Aa A;have a5:=l.rd.lt;have a9:=A.lt;have O:=l.lt;have c:=A.c0;have af:=Aa (EX.eq_1 ps.length s);generalize EX ps.length s=aE at*;have aj:=Aa (fun W (a:LQ w W p b G u v s)=>SP W b G s Dw a.ps);have d:=Aa (EY.eq_1 s);have aZ:ln (EY s)<=ln s:=by
  rw[d.o];split
  ·simp[ln]
  ·exact wQ _
 generalize EY s=s1 at*;have aa:=Aa (fun W (a:LQ w W p b G u v s1)=>Eh W b G s1 a.ps);have a0:=Bg s1;generalize nm s1=B at*;generalize nmT s1=n at*;have am:=Aa (fun W (a:LQ w W p b G u v n)=>(show Calls prog _ _ W (fun e w'=>_/\PS w' b G (nW n Dw)/\_)from Pw W b G n Dw a.ps));have a1:=RX n Dw;generalize nW n Dw=r at*;have ab:=Aa (fun W (a:LQ w W p b G u v r)=>Eh W b G r a.ps);have a2:=Bg r;generalize nm r=U at*;generalize nmT r=D at*;clear l A Q R;go_enter func103,ntmps103;go_wp2_with fail;refine(aj.o _ (J.o.al _)).mono ?_;rintro _ w1 ⟨rfl,L⟩;have f:=Aa ((J.o.al _).be L);have t:=Aa ((L.block _ (by simp)).trans (wX w (.cells #[.string ⟨#[]⟩,.pointer none] 179)));have a6:=Ab t.o;have c1:=f.o.c0;have aM:=f.o.lt;clear L aj J
 go_upto_if 8 with fail
 go_cut [] (fun wc=>LQ w wc p b G u v s1/\wc.heap[w.heap.size]?=some (.cells #[.string ⟨#[]⟩,.pointer none] 179 (0,0)))
 case first=>
  cases au:Bu s Dw
  ·rw[au]at d
   have M:s1=s:=d.o;subst M;go_wp2;go_meet;exact⟨f.o,t.o⟩
  ·rw[au]at d
   have M:s1=none:=d.o;have aH:=Aa (Gc w1 b G s f.o.ps);go_wp2_with fail;refine aH.o.mono ?_;rintro _ w2 ⟨rfl,aK,k2⟩;go_wp2;go_meet;rw[M];exact⟨f.o.call aK k2,k2.at t.o (by omega)⟩
 case rest=>
 obtain⟨C,P⟩:=hcut;have K:=Aa C;have ao:=Aa P;have c3:=C.c0;have aN:=C.lt;have a7:=Ab P;clear C P d t f c1 aM;go_wp2_with fail;refine(aa.o _ K.o).mono ?_;rintro _ w4 ⟨rfl,N,S⟩;have h:=Aa (K.o.call N S);have H:=Aa (S.at ao.o (by omega));have az:=Ab H.o;have c4:=h.o.c0;have aO:=h.o.lt;have aY:=N.lt;have aQ:w.heap.size<=w4.heap.size:=Nat.le_of_lt az;clear N S aa K ao c3 aN;go_wp2_with fail;refine(am.o _ (h.o.al _)).mono ?_;rintro _ w5 ⟨rfl,av,y⟩;have j:=Aa ((h.o.al _).call av y);have ap:=Aa (y.at ((AJ w4 _ _ az).trans H.o) (by omega));have V:=Aa (y.at (wX w4 _) (by omega));have aJ:=j.o.c0;have aP:=j.o.lt;clear av y am h H c4 aO;go_wp2_with fail;refine(ab.o _ j.o).mono ?_;rintro _ w6 ⟨rfl,aw,z⟩;have ar:=Aa (j.o.call aw z);have I:=Aa (z.at ap.o (by omega));have E:=Aa (z.at V.o (by omega));clear aw z ab j ap V aJ aP;have ag:=Aa (show QS w6 B0 p b q G D 0 vO vF ps from ai.o.rdr (by have:=ar.o;rw[ak.o.1,ak.o.2]at this;exact this));have X:=Aa (show FT B0 kQ w w6 from ai.o.ft ar.o.kp O);have ay:=Ab I.o;have aL:=Ab E.o;have aR:w.heap.size<=w6.heap.size:=Nat.le_of_lt ay;have F:=Aa (Oq 11 0 (by decide) (by decide) (by decide) w6 ps U D (by omega) ag.o);have aI:=Aa (show aE=((B,ps.length),BD 11 ps.length 0 U D)from af.o);generalize BD 11 ps.length 0 U D=aS at*;obtain⟨Ps,aT⟩:=aS;clear af;simp only[]at F;go_wp2_with fail;refine F.o.mono ?_;rintro _ w8 ⟨new,k,rfl,ax,aA,aD,x,aC⟩;have g:=x.at E.o (by decide);have m:=x.at I.o (by decide);have aG:=Aa (AI g 1 (pV k));have aq:=Aa (Ed (i:=1) m (show w.heap.size≠w4.heap.size by omega) (pV k));have Z:=Aa ((X.o.trans x).sn O ⟨w4.heap.size,1,none⟩ aQ (pV k));have ah:=Aa (aD.st g (by decide) 1 (pV k));have ae:=Aa (aC.typ' (AA.setB aL 1 (pV k)));have ad:=Aa (xZ aA ax);have aU:=Ac g;have aW:=Ak g;have a3:=Ab g;have aV:=Ac m;have aX:=Ak m;have a4:=Ab m;unfold pV at aG aq Z ah ae;clear aD x aC g m F E I ag X ax aA;have aF:=Aa (fun Y (T:Ag w.heap.size (w8.setCell ⟨w4.heap.size,1,none⟩ (.pointer (some ⟨k,0,none⟩))) Y)=>(show∃new aB,Ending.returned (.agg #[.string B,.pointer (some ⟨k,0,none⟩)])=.returned (.agg #[.string B,pV aB])/\(ps++new)[ps.length]?=some aB/\new.length=Ps.length/\QS Y B0 p b q G aT 0 vO vF (ps++new)/\FT B0 kQ w Y/\Bl Y w.heap.size (ps++new) ps.length Ps from
  ⟨new,k,rfl,ad.o.2,ad.o.1,ah.o.typ (AA.keep T aq.o (by decide)),Z.o.kn T (wQ _) O,(ae.o.typ' (AA.keepB T ay)).low aR⟩))
 unfold pV;go_wp2_with fail;rw[aI.o];refine bodyPost_ret (v:=.agg #[.string B,.pointer (some ⟨k,0,none⟩)]) (by simp[results,results103,go_sem, *]) rfl ?_;refine aF.o _ ?_;repeat' with_reducible first|exact Ag.refl _ _|refine Ag.setCell ?_ _ _
end
attribute [local go_sem ↓] Go.wp_at_zero Go.wp_at_succ
theorem infoVar:(prog.info? 182).map (fun i=>(i.zero,i.size,i.bytes))=some (some (.agg #[.string ⟨#[]⟩,.string ⟨#[]⟩,.bool false,.bool false,.int .i64 0,.int .i64 0,.string ⟨#[]⟩]),7,72):=by kernel_rfl
theorem Pt(s:St):ln (CW s).2<=ln (nK s 6):=by
 unfold CW;simp only[];have a:=Bg (nK s 6);have b:=FB (nmT (nK s 6)) 9;have c:=Bg (nK (nmT (nK s 6)) 9);have d:=Mo (nmT (nK (nmT (nK s 6)) 9)) (Ae (nmT (nK (nmT (nK s 6)) 9)) 5);have e:=Mo (mayT (nmT (nK (nmT (nK s 6)) 9)) (Ae (nmT (nK (nmT (nK s 6)) 9)) 5)) (Ae (mayT (nmT (nK (nmT (nK s 6)) 9)) (Ae (nmT (nK (nmT (nK s 6)) 9)) 5)) 10);split
 ·exact wV (Sa _) (by omega)
 ·show ln (mayT _ _)<=_;omega
theorem RW(s:St)(k:Nat)(b:k≠0)(a:Ae s k=true):ln (nK s k)<ln s:=by
 unfold nK mustT;rw[xH a];exact ET s k b a
theorem rM(f:Nat)(s:St)(a:Ae s 6=false):Dj f s=([],s):=by
 cases f with
 |zero=>rfl
 |succ f=>rw[Dj,xG (by rw[a];simp)]
theorem Wy:∀(f:Nat) (s:St),ln (Dj f s).2<=ln s
 |0,s=>wQ _
 |f+1,s=>by
  rw[Dj];split
  ·exact wV (Wy f _) (wV (Pt s) (FB s 6))
  ·exact wQ _
def GF(s:St):List Eb×St:=if Ae s 7=true then((CW (tl s)).1::(Dj 801 (CW (tl s)).2).1,nK (Dj 801 (CW (tl s)).2).2 8)else([],s)
theorem Wh(s:St):ln (GF s).2<=ln s:=by
 unfold GF;split
 ·exact wV (FB _ _) (wV (Wy _ _) (wV (Pt _) (wV (FB _ _) (BI s))))
 ·exact wQ _
theorem My(n:Nat)(s:St):EZ n s=(((GF (mayT s (Ae s 1))).1,n),BD 11 n 0 ⟨#[]⟩ (GF (mayT s (Ae s 1))).2):=by
 unfold EZ GF II;generalize mayT s (Ae s 1)=s1;generalize Dj 801=F;generalize BD 11=P;simp only[];split<;>rfl
theorem Xp{a b c d e f g:Value}(i:a.oneCell'=true)(j:b.oneCell'=true)(k:c.oneCell'=true)(l:d.oneCell'=true)(m:e.oneCell'=true)(n:f.oneCell'=true)(p:g.oneCell'=true):∀u∈[a,b,c,d,e,f,g],u.oneCell'=true:=by
 intro u h;simp at h;rcases h with rfl|rfl|rfl|rfl|rfl|rfl|rfl<;>assumption
structure OV(w X:World)(p b G:Nat)(u u':Value)(L:List Eb)(v:Value)(s:St):Prop where
 q:LQ w X p b G u u' s
 z:X.heap[w.heap.size]?=some (.cells #[.slice none 0 0,.pointer none] 122 (0,0))
 n:X.heap[w.heap.size+1]?=some (.cells #[v,.pointer none] 122 (0,0))
 o:X.ownsRow (w.heap.size+2) 182 7 v L.length (L.flatMap MD)
section
variable {w X Y w6 w7:World} {p b G:Nat} {u u' v:Value} {L:List Eb} {s s':St}
theorem OV.call(a:OV w X p b G u u' L v s)(c:PS Y b G s')(k:Ag b X Y):OV w Y p b G u u' L v s':=
 ⟨a.q.call c k,k.at a.z (by have:=a.q.hb;omega),k.at a.n (by have:=a.q.hb;omega),a.q.own k a.o (by omega)⟩
theorem OV.tr(a:OV w X p b G u u' L v s)(k:LQ X Y p b G u u' s'):OV w Y p b G u u' L v s':=a.call k.ps k.kp
theorem OV.be(a:OV w X p b G u u' L v s)(k:yG X Y):OV w Y p b G u u' L v s:=
 ⟨a.q.be k,(k.block _ (Ab a.z)).trans a.z,(k.block _ (Ab a.n)).trans a.n,AT a.o k⟩
theorem OV.dr(a:OV w X p b G u u' L v s):OV w X.drew p b G u u' L v s:=⟨a.q.dr,a.z,a.n,a.o.drew⟩
theorem OV.step{o:Obj}{x:Eb}{g cap:Nat}(a:OV w w6 p b G u u' L v s)(c:(w6.alloc o).grownBy w7 v.ownBlock)
 (e:w7.ownsRow (w.heap.size+2) 182 7 (.slice (some ⟨g,0,none⟩) (L.length+1) cap) (L.length+1) (L.flatMap MD++MD x)):
 OV w (w7.setCell ⟨w.heap.size+1,0,none⟩ (.slice (some ⟨g,0,none⟩) (L.length+1) cap)) p b G u u' (L++[x]) (.slice (some ⟨g,0,none⟩) (L.length+1) cap) s:=by
 have d:=Jz a.o c a.n (by decide);have f:=Jz a.o c a.z (by decide);exact⟨a.q.app a.o c (by omega) (by omega) 0 _,Ed f (by omega) _,AI d 0 _,by rw[xJ,List.flatMap_append];simp only[List.flatMap_cons,List.flatMap_nil,List.append_nil];exact Ds e (By e d (by decide)) _ _⟩
end
section
variable {w:World} {B0 p b q G:Nat} {vO vF:Value} {ps:List Nat} {s:St}
theorem rU(Q:QS w B0 p b q G s 0 vO vF ps)(bY:ps.length+ln s<=100000):
 Calls prog 102 #[.pointer (some ⟨p,0,none⟩)] w fun e w'=>∃new k am,e=.returned (.agg #[am,pV k])/\w'.ownsRow w.heap.size 182 7 am (EZ ps.length s).1.1.length ((EZ ps.length s).1.1.flatMap MD)/\(EZ ps.length s).1.1.length<=802/\(ps++new)[ps.length]?=some k/\new.length=(EZ ps.length s).2.1.length/\QS w' B0 p b q G (EZ ps.length s).2.2 0 vO vF (ps++new)/\FT B0 kQ w w'/\Bl w' w.heap.size (ps++new) ps.length (EZ ps.length s).2.1:=by
 obtain⟨bc,a5,a9,ba,bb⟩:=info_parts infoVar;obtain⟨u,aK⟩:∃u:Value,u=.pointer (some ⟨q,0,none⟩):=⟨_,rfl⟩;obtain⟨u',aL⟩:∃v:Value,v=.int .i64 (0:Nat):=⟨_,rfl⟩;have aZ:=Aa (xZ aK aL);have aw:LQ w w p b G u u' s:=by rw[aK,aL];exact Q.lq1
 have aW:=Aa Q;have aE:=Aa aw;have bV:=Q.rd.lt;have b0:=aw.lt;have aI:=Q.lt;have bQ:=Q.rd.len;have c:=aw.c0;have az:=Aa (My ps.length s);generalize EZ ps.length s=bG at*;have aX:=Aa (fun W (H:LQ w W p b G u u' s)=>EG W b G s 1 H.ps);have bP:=Mo s (Ae s 1);generalize mayT s (Ae s 1)=s1 at*;have aY:=Aa (fun W (H:LQ w W p b G u u' s1)=>EG W b G s1 7 H.ps);have M:=Aa (GF.eq_1 s1);have bs:=Wh s1;generalize GF s1=bE at*;obtain⟨h,l⟩:=bE;simp only[]at az bs;have ab:=Aa (fun W s' (H:LQ w W p b G u u' s')=>sB H.one);clear Q aw aK aL;go_enter func102,ntmps102;go_wp2_with fail;refine(aX.o _ ((aE.o.al _).al _)).mono ?_;rintro _ w1 ⟨rfl,a3,au⟩;have C:=Aa (show OV w w1 p b G u u' [] (.slice none 0 0) s1 from⟨((aE.o.al _).al _).call a3 au,au.at ((AJ _ _ _ (by simp)).trans (wX w _)) (by omega),au.at (MC w _ _) (by omega),xF _ _ _ _⟩);have c1:=C.o.q.c0;have bw:=C.o.q.lt;clear a3 au aX aE;go_wp2_with fail;refine(aY.o _ C.o.q).mono ?_;rintro _ w2 ⟨rfl,a4,k2⟩;have t:=Aa (C.o.call a4 k2);clear a4 k2 aY C c1 bw
 go_upto_if 13 with fail
 go_cut [] (fun wc=>∃v,OV w wc p b G u u' h v l/\h.length<=802)
 case first=>
  cases ae:Ae s1 7
  ·rw[ae]at t M
   obtain⟨aG,aH⟩:h=[]/\l=s1:=by have:=M.o;simpa using this
   subst aG aH;go_wp2;go_meet;exact⟨_,t.o,by simp⟩
  ·rw[ae]at t M
   have t:=Aa (show OV w w2 p b G u u' [] (.slice none 0 0) (tl s1)from t.o);have ax:=Aa (show(h,l)=((CW (tl s1)).1::(Dj 801 (CW (tl s1)).2).1,nK (Dj 801 (CW (tl s1)).2).2 8)from M.o);clear M ae;have bW:ln (tl s1)<=801:=t.o.q.ps.len;generalize tl s1=aj at*;obtain⟨O,aq⟩:∃O:List Eb,O=[]:=⟨_,rfl⟩;obtain⟨v0,a⟩:∃v0,OV w w2 p b G u u' O v0 aj:=by rw[aq];exact⟨_,t.o⟩
   obtain⟨aF,c0,rfl⟩:=An a.o;have aM:=Aa aq;have bp:O.length<=0:=by rw[aq];simp
   have a1:=Ac a.n;have fN:=Ak a.n;have bf:=Ab a.n;have j:=Aa a;have N:=Aa (ab.o · aj);have bt:=wV (Pt aj) (FB aj 6);clear aq t a;generalize CW aj=r at*;obtain⟨⟨Z,aa,T,U,V,X,vt⟩,S⟩:=r;simp only[Th]at N ax bt;go_upto_region 4 with fail;go_cut [] (fun wc=>∃L v,OV w wc p b G u u' L v S/\L=[⟨Z,aa,T,U,(V,X,vt)⟩])
   case first=>
    go_region_law (first
     |(refine step_append_lies _ (by rfl) _ _ _ (by rfl) (w.heap.size+2) 182 bc _ 7 72 underlying119 a5 a9 ba bb rfl (by decide) _ _ _ (by rfl) (F.alloc _) ⟨w6.heap.size,0,none⟩ 1 1 [.string Z,.string aa,.bool T,.bool U,.int .i64 V,.int .i64 X,.string vt] (by rfl) (by rfl) (Cz _ _ _ _ (by simp)) (Xp rfl rfl rfl rfl rfl rfl rfl) (by decide) (by unfold maxLen;omega) (by omega) (by simp;omega) (w6.heap.size+1) (by simp) ?_;intro g cap w7 ah I bq br;have A:=Jz F I d.n (by decide);have ae:=Ac A;have bn:=Ak A;have bD:=Ab A)
     |(go_simp;go_at_call 154;refine(N.o _ ?_).mono ?_;(first|exact j.o.dr.q|exact j.o.q);rintro _ w6 ⟨rfl,J⟩;have d:OV w w6 p b G u u' O (.slice aF O.length c0) S:=(by first|exact j.o.tr J|exact j.o.dr.tr J);have F:=d.o;have bm:=Ac d.n;have bC:=Ab d.n))
    all_goals(
     have aA:=Aa (d.step (x:=⟨Z,aa,T,U,(V,X,vt)⟩) I ah);clear I ah F A d J;go_wp2;go_meet;refine⟨_,_,aA.o,?_⟩;rw[aM.o];rfl)
   case rest=>
   obtain⟨aC,v1,bg,aJ⟩:=hcut;have C:=Aa bg;have bM:aC.length<=1:=by rw[aJ];simp
   have aP:=Aa aJ;clear bg aJ j N a1 fN bf bp aM;have aV:=Aa (show(h,l)=(aC++(Dj 801 S).1,nK (Dj 801 S).2 8)from by rw[ax.o,aP.o];rfl);clear ax aP;go_wp2;go_loopg [] (ln S) (fun m wr=>∃(L:List Eb) (v:Value) (s':St) (f:Nat),ln s'<=m/\ln s'<=f/\OV w wr p b G u u' L v s'/\L.length+ln s'<=802/\(h,l)=(L++(Dj f s').1,nK (Dj f s').2 8))
   case atStart=>exact⟨aC,v1,S,801,wQ _,by omega,C.o,by omega,aV.o⟩
   case round=>
    obtain⟨L,v,s',f,bU,bT,R,bO,hrel⟩:=hrel;obtain⟨aF,c0,rfl⟩:=An R.o;have ap:=Aa hrel;have aD:=Aa R;have c4:=R.q.c0;have bx:=R.q.lt;have ar:=Aa (Hg wr b G s' 6 R.q.ps);clear R hrel C aV;cases D:Ae s' 6
    ·rw[D]at ar
     have ao:=Aa (show h=L/\l=nK s' 8 from by have:=ap.o;rw[rM f s' D]at this;simpa using this);have bl:=Aa (fun W (H:PS W b G s')=>(show Calls prog _ _ W (fun e w'=>_/\PS w' b G (nK s' 8)/\_)from Cj W b G s' 8 H));generalize (Ay s' 8).k=mk at*;generalize (Ay s' 8).n=b1 at*;generalize (Ay s' 8).s=b2 at*;clear D ap ab;go_wp2_with fail;refine ar.o.mono ?_;rintro _ w5 ⟨rfl,ad⟩;have y:=Aa (aD.o.be ad);have bH:=y.o.q.c0;have bZ:=y.o.q.lt;clear ad;go_wp2_with fail;refine(bl.o _ y.o.q.ps).mono ?_;rintro _ w6 ⟨rfl,bo,bB⟩;go_wp2;go_meet;obtain⟨aG,aH⟩:=ao.o;rw[aG,aH];exact⟨_,y.o.call bo bB,by omega⟩
    ·rw[D]at ar
     have bX:=RW s' 6 (by decide) D;have bv:=Pt s';obtain⟨af,rfl⟩:∃af,f=af+1:=⟨f-1,by omega⟩;have ao:=Aa (show(h,l)=(L++((CW s').1::(Dj af (CW s').2).1),nK (Dj af (CW s').2).2 8)from by rw[ap.o,Dj,xH D]);have N:=Aa (ab.o · s');clear D ap ab;generalize CW s'=r at*;obtain⟨⟨Z,aa,T,U,V,X,vt⟩,ak⟩:=r;simp only[Th]at N ao bv;go_wp2_with fail;refine ar.o.mono ?_;rintro _ w5 ⟨rfl,ad⟩;have ai:=aD.o.be ad;have a1:=Ac ai.n;have fN:=Ak ai.n;have bf:=Ab ai.n;have y:=Aa ai;have bN:L.length<=802:=by omega
     clear ad ai aD c4 bx;go_wp2;go_region_law (first
      |(refine step_append_lies _ (by rfl) _ _ _ (by rfl) (w.heap.size+2) 182 bc _ 7 72 underlying119 a5 a9 ba bb rfl (by decide) _ _ _ (by rfl) (F.alloc _) ⟨w6.heap.size,0,none⟩ 1 1 [.string Z,.string aa,.bool T,.bool U,.int .i64 V,.int .i64 X,.string vt] (by rfl) (by rfl) (Cz _ _ _ _ (by simp)) (Xp rfl rfl rfl rfl rfl rfl rfl) (by decide) (by unfold maxLen;omega) (by omega) (by simp;omega) (w6.heap.size+1) (by simp) ?_;intro g cap w7 ah I bq br;have A:=Jz F I d.n (by decide);have ae:=Ac A;have bn:=Ak A;have bD:=Ab A)
      |(go_simp;go_at_call 154;refine(N.o _ ?_).mono ?_;(first|exact y.o.dr.q|exact y.o.q);rintro _ w6 ⟨rfl,J⟩;have d:OV w w6 p b G u u' L (.slice aF L.length c0) ak:=(by first|exact y.o.tr J|exact y.o.dr.tr J);have F:=d.o;have bm:=Ac d.n;have bC:=Ab d.n))
     all_goals(
      have aA:=Aa (d.step (x:=⟨Z,aa,T,U,(V,X,vt)⟩) I ah);clear I ah F A d J;go_wp2;go_roundg (ln ak)
      case measure=>omega
      case rel=>exact⟨_,_,ak,af,wQ _,by omega,aA.o,by simp;omega,by rw[ao.o];simp⟩)
 case rest=>
 obtain⟨v3,a,bz⟩:=hcut;obtain⟨a0,a2,rfl⟩:=An a.o;have j:=Aa a;have aT:=Aa (show QS wc B0 p b q G l 0 vO vF ps from aW.o.rdr (by have:=a.q;rw[aZ.o.1,aZ.o.2]at this;exact this));have aN:=Aa (show FT B0 kQ w wc from aW.o.ft a.q.kp aI);have bu:=Ab a.n;have a7:=Ab a.z;have bA:w.heap.size<=wc.heap.size:=Nat.le_of_lt a7;have ay:=Aa (Oq 11 0 (by decide) (by decide) (by decide) wc ps ⟨#[]⟩ l (by omega) aT.o);generalize BD 11 ps.length 0 ⟨#[]⟩ l=bF at*;obtain⟨Ps,ak⟩:=bF;simp only[]at ay az;clear a M t ab;go_wp2_with fail;refine ay.o.mono ?_;rintro _ w8 ⟨new,k,rfl,a6,a8,bi,P,bh⟩;have E:=P.at j.o.n (by decide);have ag:=P.at j.o.z (by decide);have bk:=Aa (AI E 1 (pV k));have aB:=Aa (Ed (i:=1) ag (show w.heap.size≠w.heap.size+1 by omega) (pV k));have aO:=Aa ((aN.o.trans P).sn aI ⟨w.heap.size+1,1,none⟩ (Nat.le_succ _) (pV k));have aU:=Aa (bi.st E (by decide) 1 (pV k));have aR:=Aa (Ds (i:=1) (P.own j.o.o (by decide)) (By (P.own j.o.o (by decide)) E (by decide)) (pV k));have aS:=Aa (bh.typ' (AA.setB bu 1 (pV k)));have aQ:=Aa (xZ a8 a6);have bI:=Ac E;have bK:=Ak E;have bR:=Ab E;have bJ:=Ac ag;have bL:=Ak ag;have bS:=Ab ag;unfold pV at bk aB aO aU aS aR;clear bi P bh E ag ay j aT aN a6 a8;have bj:=Aa (fun Y (av:Ag w.heap.size (w8.setCell ⟨w.heap.size+1,1,none⟩ (.pointer (some ⟨k,0,none⟩))) Y)=>(show∃new bd am,Ending.returned (.agg #[.slice a0 h.length a2,.pointer (some ⟨k,0,none⟩)])=.returned (.agg #[am,pV bd])/\Y.ownsRow w.heap.size 182 7 am h.length (h.flatMap MD)/\h.length<=802/\(ps++new)[ps.length]?=some bd/\new.length=Ps.length/\QS Y B0 p b q G ak 0 vO vF (ps++new)/\FT B0 kQ w Y/\Bl Y w.heap.size (ps++new) ps.length Ps from
  ⟨new,k,_,rfl,FE ((AA.keep (B:=0) (K:=[182]) av aB.o (by decide)).own aR.o (by decide) (wZ _)) (by omega),bz,aQ.o.2,aQ.o.1,aU.o.typ (AA.keep av aB.o (by decide)),aO.o.kn av (wQ _) aI,(aS.o.typ' (AA.keepB av a7)).low bA⟩))
 unfold pV;go_wp2_with fail;rw[az.o];refine bodyPost_ret (v:=.agg #[.slice a0 h.length a2,.pointer (some ⟨k,0,none⟩)]) (by simp[results,results102,go_sem, *]) rfl ?_;refine bj.o _ ?_;repeat' with_reducible first|exact Ag.refl _ _|refine Ag.setCell ?_ _ _
end
attribute [local go_sem ↓] Go.wp_at_zero Go.wp_at_succ
abbrev kR:List TypeId:=[215,171,112,120,122,179]
abbrev Hl:=Ot×Value
def oL(pp:List Nat)(x:Hl):List Value:=[x.2,AO pp (some x.1.2)]
def Hy(pp:List Nat)(x:Db):List Value:=[.string x.1,AO pp (some x.2)]
structure Qz(X:World)(B0 n:Nat)(x:Hl):Prop where
 v:X.ownsRow B0 182 7 x.2 x.1.1.length (x.1.1.flatMap MD)
 l:x.1.1.length<=802
 p:x.1.2<n
structure QE(X:World)(B0 p b q G:Nat)(s:St)(vO vF:Value)(LO:List Hl)(fr:List Db)(parts:List Ai)(ps:List Nat):Prop where
 qs:QS X B0 p b q G s 0 vO vF ps
 o:X.ownsRow B0 122 2 vO LO.length (LO.flatMap (oL ps))
 oo:∀x∈LO,Qz X B0 ps.length x
 f:X.ownsRow B0 179 2 vF fr.length (fr.flatMap (Hy ps))
 ff:∀x∈fr,x.2<ps.length
 n:ps.length=parts.length
 pt:Bl X B0 ps 0 parts
section
variable {w X Y w6 w7:World} {B0 p b q G:Nat} {s s':St} {vO vF v7:Value} {LO:List Hl} {fr:List Db} {parts Ps:List Ai} {ps new:List Nat}
theorem oW{x:Hl}(a:x.1.2<ps.length):oL (ps++new) x=oL ps x:=by
 unfold oL;rw[Sw _ (fun i e=>by cases e;exact a)]
theorem oX{a:List Hl}(b:∀x∈a,x.1.2<ps.length):a.flatMap (oL (ps++new))=a.flatMap (oL ps):=by
 induction a with
 |nil=>rfl
 |cons x l d=>rw[List.flatMap_cons,List.flatMap_cons,oW (b x yB),d (fun y c=>b y (yA _ c))]
theorem iB{x:Db}(a:x.2<ps.length):Hy (ps++new) x=Hy ps x:=by
 unfold Hy;rw[Sw _ (fun i e=>by cases e;exact a)]
theorem iD{a:List Db}(b:∀x∈a,x.2<ps.length):a.flatMap (Hy (ps++new))=a.flatMap (Hy ps):=by
 induction a with
 |nil=>rfl
 |cons x l d=>rw[List.flatMap_cons,List.flatMap_cons,iB (b x yB),d (fun y c=>b y (yA _ c))]
theorem QE.ft(a:QE X B0 p b q G s vO vF LO fr parts ps)(i:QS w6 B0 p b q G s' 0 vO vF (ps++new))(d:FT B0 kQ X w6)(g:new.length=Ps.length)(h:Bl w6 X.heap.size (ps++new) ps.length Ps):QE w6 B0 p b q G s' vO vF LO fr (parts++Ps) (ps++new):=by
 have e:=a.qs.lt;refine⟨i,by rw[oX (fun x c=>(a.oo x c).p)];exact d.own a.o (by decide),fun x c=>⟨d.own (a.oo x c).v (by decide),(a.oo x c).l,by have:=(a.oo x c).p;rw[xJ];omega⟩,by rw[iD a.ff];exact d.own a.f (by decide),fun x c=>by have:=a.ff x c;rw[xJ];omega,by rw[xJ,xJ,a.n,g],?_⟩;refine Bl.app (a.pt.typ (AA.ft d (by decide))) ?_;rw[Nat.zero_add,<-a.n];exact h.low e
theorem QE.stay(a:QE X B0 p b q G s vO vF LO fr parts ps)(h:QS Y B0 p b q G s' 0 vO vF ps)(V:AA 0 [122,179,182,223,229,236,238] X Y):QE Y B0 p b q G s' vO vF LO fr parts ps:=
 ⟨h,V.own a.o (by decide) (wZ _),fun x c=>⟨V.own (a.oo x c).v (by decide) (wZ _),(a.oo x c).l,(a.oo x c).p⟩,V.own a.f (by decide) (wZ _),a.ff,a.n,a.pt.typ' ⟨V.1,fun k cs t fr _ g d=>V.2 k cs t fr (wZ _) g (by simp at d⊢;rcases d with e|e|e|e<;>simp[e])⟩⟩
theorem QE.call(a:QE X B0 p b q G s vO vF LO fr parts ps)(e:PS Y b G s')(k:Ag b X Y):QE Y B0 p b q G s' vO vF LO fr parts ps:=by
 obtain⟨c,d⟩:=a.qs.rd.ty;exact a.stay (a.qs.call e k) (AA.keep k d (by decide))
theorem QE.be(a:QE X B0 p b q G s vO vF LO fr parts ps)(k:yG X Y):QE Y B0 p b q G s vO vF LO fr parts ps:=a.stay (a.qs.be k) (AA.below k)
theorem QE.dr(a:QE X B0 p b q G s vO vF LO fr parts ps):QE X.drew B0 p b q G s vO vF LO fr parts ps:=a.stay a.qs.dr AA.drew
theorem QE.addOp{o:Obj}{x:Hl}{g cap k:Nat}(a:QE w6 B0 p b q G s vO vF LO fr parts ps)(z:(w6.alloc o).grownBy w7 vO.ownBlock)
 (A:w7.ownsRow B0 122 2 (.slice (some ⟨g,0,none⟩) (LO.length+1) cap) (LO.length+1) (LO.flatMap (oL ps)++[x.2,.pointer (some ⟨k,0,none⟩)])) (c:ps[x.1.2]?=some k) (r:Qz w6 B0 ps.length x):
 QE (w7.setCell ⟨q,0,none⟩ (.slice (some ⟨g,0,none⟩) (LO.length+1) cap)) B0 p b q G s (.slice (some ⟨g,0,none⟩) (LO.length+1) cap) vF (LO++[x]) fr parts ps/\FT B0 kR w6 (w7.setCell ⟨q,0,none⟩ (.slice (some ⟨g,0,none⟩) (LO.length+1) cap)):=by
 have w:=a.qs.lt;have m:(w6.alloc o).ownsRow B0 122 2 vO LO.length (LO.flatMap (oL ps)):=a.o.alloc o;obtain⟨E,B,C⟩:=a.qs.qy;have j:AA 0 [215,174,171,112,120,179,182,223,229,236,238] w6 w7:=(AA.alloc o).trans (AA.grown z m (by decide));have i:=j.2 _ _ _ _ (wZ _) B (by decide);have u:AA 0 [215,174,171,120,179,182,223,229,236,238] w7 (w7.setCell ⟨q,0,none⟩ (.slice (some ⟨g,0,none⟩) (LO.length+1) cap)):=AA.set i (by decide) _ _;have V:AA 0 [215,174,171,120,179,182,223,229,236,238] w6 (w7.setCell ⟨q,0,none⟩ (.slice (some ⟨g,0,none⟩) (LO.length+1) cap)):=
  ⟨wV j.1 u.1,fun k cs t fr hb c h=>u.2 k cs t fr hb (j.2 k cs t fr hb c (by simp at h⊢;rcases h with e|e|e|e|e|e|e|e|e|e<;>simp[e])) h⟩
 refine⟨⟨⟨a.qs.rd.typ V (by decide) (by decide),V.2 _ _ _ _ (wZ _) a.qs.pa (by decide),⟨E,AI i 0 _,V.own C (by decide) (wZ _)⟩,a.qs.lb,a.qs.lp,a.qs.lq⟩,?_,?_,V.own a.f (by decide) (wZ _),a.ff,a.n,a.pt.typ' ⟨V.1,fun k cs t fr _ c h=>V.2 k cs t fr (wZ _) c (by simp at h⊢;rcases h with e|e|e|e<;>simp[e])⟩⟩,?_⟩
 ·rw[xJ,List.flatMap_append]
  have e:[x].flatMap (oL ps)=[x.2,.pointer (some ⟨k,0,none⟩)]:=by
   simp only[List.flatMap_cons,List.flatMap_nil,List.append_nil,oL,AO,c,Option.map_some]
  rw[e];exact Ds A (By A i (by decide)) _ _
 ·intro y d
  rcases yD.1 d with d|d
  ·exact⟨V.own (a.oo y d).v (by decide) (wZ _),(a.oo y d).l,(a.oo y d).p⟩
  ·rw[List.mem_singleton]at d;subst d
   exact⟨V.own r.v (by decide) (wZ _),r.l,r.p⟩
 ·exact(((FT.refl B0 kR w6).al w o).gr z (fun k c=>.inl ⟨(m.lt k c).1,by obtain⟨F,D⟩:=FG m k c;exact⟨_,_,_,D,by decide⟩⟩) w).st i (by decide) a.qs.lq 0 _
theorem QE.addFr{o:Obj}{x:Db}{g cap k:Nat}(a:QE w6 B0 p b q G s vO vF LO fr parts ps)(w:(w6.alloc o).grownBy w7 vF.ownBlock)
 (z:w7.ownsRow B0 179 2 (.slice (some ⟨g,0,none⟩) (fr.length+1) cap) (fr.length+1) (fr.flatMap (Hy ps)++[.string x.1,.pointer (some ⟨k,0,none⟩)])) (d:ps[x.2]?=some k) (D:x.2<ps.length):
 QE (w7.setCell ⟨q,1,none⟩ (.slice (some ⟨g,0,none⟩) (fr.length+1) cap)) B0 p b q G s vO (.slice (some ⟨g,0,none⟩) (fr.length+1) cap) LO (fr++[x]) parts ps/\FT B0 kR w6 (w7.setCell ⟨q,1,none⟩ (.slice (some ⟨g,0,none⟩) (fr.length+1) cap)):=by
 have u:=a.qs.lt;have m:(w6.alloc o).ownsRow B0 179 2 vF fr.length (fr.flatMap (Hy ps)):=a.f.alloc o;obtain⟨E,A,B⟩:=a.qs.qy;have j:AA 0 [215,174,171,112,120,122,182,223,229,236,238] w6 w7:=(AA.alloc o).trans (AA.grown w m (by decide));have i:=j.2 _ _ _ _ (wZ _) A (by decide);have r:AA 0 [215,174,171,120,122,182,223,229,236,238] w7 (w7.setCell ⟨q,1,none⟩ (.slice (some ⟨g,0,none⟩) (fr.length+1) cap)):=AA.set i (by decide) _ _;have V:AA 0 [215,174,171,120,122,182,223,229,236,238] w6 (w7.setCell ⟨q,1,none⟩ (.slice (some ⟨g,0,none⟩) (fr.length+1) cap)):=
  ⟨wV j.1 r.1,fun k cs t fr hb d h=>r.2 k cs t fr hb (j.2 k cs t fr hb d (by simp at h⊢;rcases h with e|e|e|e|e|e|e|e|e|e<;>simp[e])) h⟩
 refine⟨⟨⟨a.qs.rd.typ V (by decide) (by decide),V.2 _ _ _ _ (wZ _) a.qs.pa (by decide),⟨E,AI i 1 _,V.own B (by decide) (wZ _)⟩,a.qs.lb,a.qs.lp,a.qs.lq⟩,V.own a.o (by decide) (wZ _),fun y c=>⟨V.own (a.oo y c).v (by decide) (wZ _),(a.oo y c).l,(a.oo y c).p⟩,?_,?_,a.n,a.pt.typ' ⟨V.1,fun k cs t fr _ d h=>V.2 k cs t fr (wZ _) d (by simp at h⊢;rcases h with e|e|e|e<;>simp[e])⟩⟩,?_⟩
 ·rw[xJ,List.flatMap_append]
  have e:[x].flatMap (Hy ps)=[.string x.1,.pointer (some ⟨k,0,none⟩)]:=by
   simp only[List.flatMap_cons,List.flatMap_nil,List.append_nil,Hy,AO,d,Option.map_some]
  rw[e];exact Ds z (By z i (by decide)) _ _
 ·intro y c
  rcases yD.1 c with c|c
  ·exact a.ff y c
  ·rw[List.mem_singleton]at c;subst c;exact D
 ·exact(((FT.refl B0 kR w6).al u o).gr w (fun k d=>.inl ⟨(m.lt k d).1,by obtain⟨F,C⟩:=FG m k d;exact⟨_,_,_,C,by decide⟩⟩) u).st i (by decide) a.qs.lq 1 _
end
attribute [local go_sem ↓] Go.wp_at_zero Go.wp_at_succ
theorem infoOp:(prog.info? 122).map (fun i=>(i.zero,i.size,i.bytes))=some (some (.agg #[.slice none 0 0,.pointer none]),2,32):=by kernel_rfl
theorem infoFr:(prog.info? 179).map (fun i=>(i.zero,i.size,i.bytes))=some (some (.agg #[.string ⟨#[]⟩,.pointer none]),2,24):=by kernel_rfl
theorem PN{a b:Value}(d:a.oneCell'=true)(e:b.oneCell'=true):∀u∈[a,b],u.oneCell'=true:=by
 intro u c;simp at c;rcases c with rfl|rfl<;>assumption
theorem FC{l:List Nat}{i k:Nat}(b:l[i]?=some k):i<l.length:=by
 rcases Nat.lt_or_ge i l.length with a|a
 ·exact a
 ·rw[List.getElem?_eq_none a]at b;cases b
section
variable {w:World} {B0 p b q G:Nat} {s:St} {vO vF:Value} {LO:List Hl} {fr:List Db} {parts:List Ai} {ps:List Nat}
def ML(w w':World)(B0 p b q G:Nat)(ps:List Nat)(r:Qy×St):Prop:=∃d c a new,QE w' B0 p b q G r.2 d c a r.1.frags r.1.parts (ps++new)/\a.map Prod.fst=r.1.ops/\FT B0 kR w w'
theorem Yk(I:QE w B0 p b q G s vO vF LO fr parts ps)(a2:ps.length+ln s<=100000)(bc:LO.length<=100000)(bb:fr.length<=100000):
 Calls prog 62 #[.pointer (some ⟨p,0,none⟩)] w fun e w'=>e=.returned (.tuple #[])/\ML w w' B0 p b q G ps (Cl ⟨LO.map Prod.fst,fr,parts⟩ s):=by
 obtain⟨aN,aI,aK,aL,aM⟩:=info_parts infoOp;obtain⟨a7,a0,a4,a5,a6⟩:=info_parts infoFr;have ab:=Aa I;have ai:=I.qs.lt;have ao:=I.qs.pa;have a9:=Ac ao;have bd:=Ab ao;obtain⟨ae,ag,rfl⟩:=An I.o;obtain⟨ad,af,rfl⟩:=An I.f;have al:=Aa I.n;have h:=Aa (Cl.eq_1 ⟨LO.map Prod.fst,fr,parts⟩ s);generalize Cl ⟨LO.map Prod.fst,fr,parts⟩ s=F at*;have U:=Aa (Hg w b G s 14 I.qs.rd);have KK:=Aa (fun(aw Y:World) (D:Ag b aw Y) (aJ:QE aw B0 p b q G s (.slice ae LO.length ag) (.slice ad fr.length af) LO fr parts ps)=>(aJ.qs.ft D aJ.qs.lt).mono (K':=kR) (by decide));clear I ao;cases ah:Ae s 14
 rotate_left
 ·rw[ah]at U h
  have t:=Aa (show F=(⟨LO.map Prod.fst++[([],parts.length)],fr,parts++(BD 11 parts.length 0 ⟨#[]⟩ s).1⟩,(BD 11 parts.length 0 ⟨#[]⟩ s).2)from h.o);rw[<-al.o]at t;have H:=Aa (fun W (c:QS W B0 p b q G s 0 (.slice ae LO.length ag) (.slice ad fr.length af) ps)=>Oq 11 0 (by decide) (by decide) (by decide) W ps ⟨#[]⟩ s a2 c);generalize BD 11 ps.length 0 ⟨#[]⟩ s=aa at*;obtain⟨Ps,aU⟩:=aa;simp only[]at H t;clear h ah;go_enter func62,ntmps62;go_wp2_with fail;refine U.o.mono ?_;rintro _ w1 ⟨rfl,i⟩;have a:=ab.o.be i;have u:=Aa a;have O:=Aa (show FT B0 kR w w1 from FT.of_below i ai);obtain⟨aW,l,_⟩:=a.qs.qy;have aB:=Ac l;have aE:=Ak l;have aS:=Ab l;have aq:=Ab a.qs.pa;clear i a l;go_wp2;go_region_law (first
   |(refine step_append_lies _ (by rfl) _ _ _ (by rfl) B0 122 aN _ 2 32 underlying108 aI aK aL aM rfl (by decide) _ _ _ (by rfl) (B.alloc _) ⟨w6.heap.size,0,none⟩ 1 1 [.slice none 0 0,.pointer (some ⟨k,0,none⟩)] (by rfl) (by rfl) (Cz _ _ _ _ (by simp)) (PN rfl rfl) (by decide) (by unfold maxLen;omega) (by omega) (by simp;omega) (w6.heap.size+1) (by simp) ?_;intro g cap w7 K C aG aH;have j:=Jz B C m (by decide);have aC:=Ac j;have aD:=Ak j;have aQ:=Ab j)
   |(go_simp;go_at_call 100;refine(H.o _ ?_).mono ?_;(first|exact u.o.dr.qs|exact u.o.qs);rintro _ w6 ⟨new,k,rfl,D,X,M,z,L⟩;unfold pV;have y:FT B0 kQ w1 w6:=(by first|exact z|exact(FT.refl B0 kQ w1).dr.trans z);have d:=u.o.ft M y X L;have B:=d.o;obtain⟨aV,m,Z⟩:=d.qs.qy;have ay:=Ac m;have aP:=Ab m;have aF:=d.qs.lt))
  all_goals(
   have A:=d.addOp (x:=(([],ps.length),.slice none 0 0)) C K D ⟨xF _ _ _ _,wZ _,FC D⟩;have R:=Aa (show ML w _ B0 p b q G ps F from by rw[t.o];exact⟨_,_,_,new,A.1,by simp,(O.o.trans (y.mono (by decide))).trans A.2⟩);clear C K B j d M y z L A m Z;go_wp2;go_end0;exact⟨rfl,R.o⟩)
 ·rw[ah]at U h
  have Q:=Aa (fun W (c:PS W b G s)=>Lw W b G s KV c);have P:=Aa (fun W (c:PS W b G s)=>Lw W b G s KU c);have h:=Aa (show F=(if Bu s KV=true then(⟨LO.map Prod.fst++[(EZ parts.length (tl s)).1],fr,parts++(EZ parts.length (tl s)).2.1⟩,(EZ parts.length (tl s)).2.2)else if Bu s KU=true then(⟨LO.map Prod.fst,fr++[(EX parts.length (tl s)).1],parts++(EX parts.length (tl s)).2.1⟩,(EX parts.length (tl s)).2.2)else(⟨LO.map Prod.fst,fr,parts⟩,none))from h.o);clear ah;cases eq:Bu s KV
  rotate_left
  ·have a1:=Mn s KV eq
   have Q:=Aa (fun W (c:PS W b G s)=>(show Calls prog 101 _ W (fun e w'=>e=.returned (.bool true)/\PS w' b G (tl s)/\Ag b W w')from by have:=Q.o W c;rw[eq]at this;exact this));rw[eq]at h;have t:=Aa (show F=(⟨LO.map Prod.fst++[(EZ parts.length (tl s)).1],fr,parts++(EZ parts.length (tl s)).2.1⟩,(EZ parts.length (tl s)).2.2)from h.o);rw[<-al.o]at t;clear h P eq;generalize tl s=s1 at*;have H:=Aa (fun W (c:QS W B0 p b q G s1 0 (.slice ae LO.length ag) (.slice ad fr.length af) ps)=>rU c (by omega));have ak:=Aa (show(EZ ps.length s1).1.2=ps.length from by rw[My]);generalize EZ ps.length s1=aa at*;obtain⟨⟨au,ar⟩,Ps,aU⟩:=aa;have am:ar=ps.length:=ak.o;subst am;simp only[]at H t;go_enter func62,ntmps62;go_wp2_with fail;refine U.o.mono ?_;rintro _ w1 ⟨rfl,i⟩;have a:=ab.o.be i;have v:=Aa a;have O:=Aa (show FT B0 kR w w1 from FT.of_below i ai);have aA:=Ac a.qs.pa;have aq:=Ab a.qs.pa;clear i a;go_wp2_with fail;refine(Q.o _ v.o.qs.rd).mono ?_;rintro _ w2 ⟨rfl,J,k2⟩;have r:=v.o.call J k2;have u:=Aa r;have F2:=Aa (O.o.trans (KK.o _ _ k2 v.o));obtain⟨aW,l,_⟩:=r.qs.qy;have aB:=Ac l;have aE:=Ak l;have aS:=Ab l;have aR:=Ab r.qs.pa;clear J k2 r l;go_wp2;go_region_law (first
    |(refine step_append_lies _ (by rfl) _ _ _ (by rfl) B0 122 aN _ 2 32 underlying108 aI aK aL aM rfl (by decide) _ _ _ (by rfl) (B.alloc _) ⟨w6.heap.size,0,none⟩ 1 1 [.slice ax au.length az,.pointer (some ⟨k,0,none⟩)] (by rfl) (by rfl) (Cz _ _ _ _ (by simp)) (PN rfl rfl) (by decide) (by unfold maxLen;omega) (by omega) (by simp;omega) (w6.heap.size+1) (by simp) ?_;intro g cap w7 K C aG aH;have j:=Jz B C m (by decide);have aC:=Ac j;have aD:=Ak j;have aQ:=Ab j)
    |(go_simp;go_at_call 102;refine(H.o _ ?_).mono ?_;(first|exact u.o.dr.qs|exact u.o.qs);rintro _ w6 ⟨new,k,bf,rfl,ap,a3,D,X,M,z,L⟩;obtain⟨ax,az,rfl⟩:=An ap;unfold pV;have y:FT B0 kQ w2 w6:=(by first|exact z|exact(FT.refl B0 kQ w2).dr.trans z);have d:=u.o.ft M y X L;have B:=d.o;obtain⟨aV,m,Z⟩:=d.qs.qy;have ay:=Ac m;have aP:=Ab m;have aF:=d.qs.lt))
   all_goals(
    have A:=d.addOp (x:=((au,ps.length),.slice ax au.length az)) C K D ⟨FE ap u.o.qs.lt,a3,FC D⟩;have R:=Aa (show ML w _ B0 p b q G ps F from by rw[t.o];exact⟨_,_,_,new,A.1,by simp,(F2.o.trans (y.mono (by decide))).trans A.2⟩);clear C K B j d M y z L A m Z ap;go_wp2;go_end0;exact⟨rfl,R.o⟩)
  ·rw[eq]at h
   have Q:=Aa (fun W (c:PS W b G s)=>(show Calls prog 101 _ W (fun e w'=>e=.returned (.bool false)/\PS w' b G s/\Ag b W w')from by have:=Q.o W c;rw[eq]at this;exact this));cases S:Bu s KU
   rotate_left
   ·have a1:=Mn s KU S
    have P:=Aa (fun W (c:PS W b G s)=>(show Calls prog 101 _ W (fun e w'=>e=.returned (.bool true)/\PS w' b G (tl s)/\Ag b W w')from by have:=P.o W c;rw[S]at this;exact this));rw[S]at h;have t:=Aa (show F=(⟨LO.map Prod.fst,fr++[(EX parts.length (tl s)).1],parts++(EX parts.length (tl s)).2.1⟩,(EX parts.length (tl s)).2.2)from h.o);rw[<-al.o]at t;clear h eq S;generalize tl s=s1 at*;have H:=Aa (fun W (c:QS W B0 p b q G s1 0 (.slice ae LO.length ag) (.slice ad fr.length af) ps)=>rS c (by omega));have ak:=Aa (show(EX ps.length s1).1.2=ps.length from rfl);generalize EX ps.length s1=aa at*;obtain⟨⟨aT,ar⟩,Ps,aU⟩:=aa;have am:ar=ps.length:=ak.o;subst am;simp only[]at H t;go_enter func62,ntmps62;go_wp2_with fail;refine U.o.mono ?_;rintro _ w1 ⟨rfl,i⟩;have a:=ab.o.be i;have v:=Aa a;have O:=Aa (show FT B0 kR w w1 from FT.of_below i ai);have aA:=Ac a.qs.pa;have aq:=Ab a.qs.pa;clear i a;go_wp2_with fail;refine(Q.o _ v.o.qs.rd).mono ?_;rintro _ w2 ⟨rfl,J,k2⟩;have r:=v.o.call J k2;have N:=Aa r;have F2:=Aa (O.o.trans (KK.o _ _ k2 v.o));have aY:=Ac r.qs.pa;have aR:=Ab r.qs.pa;clear J k2 r;go_wp2_with fail;refine(P.o _ N.o.qs.rd).mono ?_;rintro _ w3 ⟨rfl,V,T⟩;have E:=N.o.call V T;have u:=Aa E;have aj:=Aa (F2.o.trans (KK.o _ _ T N.o));obtain⟨aW,l,_⟩:=E.qs.qy;have aB:=Ac l;have aE:=Ak l;have aS:=Ab l;have a8:=Ab E.qs.pa;clear V T E l;go_wp2;go_region_law (first
     |(refine step_append_lies _ (by rfl) _ _ _ (by rfl) B0 179 a7 _ 2 24 underlying109 a0 a4 a5 a6 rfl (by decide) _ _ _ (by rfl) (B.alloc _) ⟨w6.heap.size,0,none⟩ 1 1 [.string aT,.pointer (some ⟨k,0,none⟩)] (by rfl) (by rfl) (Cz _ _ _ _ (by simp)) (PN rfl rfl) (by decide) (by unfold maxLen;omega) (by omega) (by simp;omega) (w6.heap.size+1) (by simp) ?_;intro g cap w7 K C aG aH;have j:=Jz B C m (by decide);have aC:=Ac j;have aD:=Ak j;have aQ:=Ab j)
     |(go_simp;go_at_call 103;refine(H.o _ ?_).mono ?_;(first|exact u.o.dr.qs|exact u.o.qs);rintro _ w6 ⟨new,k,rfl,D,X,M,z,L⟩;unfold pV;have y:FT B0 kQ w3 w6:=(by first|exact z|exact(FT.refl B0 kQ w3).dr.trans z);have d:=u.o.ft M y X L;have B:=d.f;obtain⟨aV,m,Z⟩:=d.qs.qy;have ay:=Ac m;have aP:=Ab m;have aF:=d.qs.lt))
    all_goals(
     have A:=d.addFr (x:=(aT,ps.length)) C K D (FC D);have R:=Aa (show ML w _ B0 p b q G ps F from by rw[t.o];exact⟨_,_,_,new,A.1,rfl,(aj.o.trans (y.mono (by decide))).trans A.2⟩);clear C K B j d M y z L A m Z;go_wp2;go_end0;exact⟨rfl,R.o⟩)
   ·rw[S]at h
    have P:=Aa (fun W (c:PS W b G s)=>(show Calls prog 101 _ W (fun e w'=>e=.returned (.bool false)/\PS w' b G s/\Ag b W w')from by have:=P.o W c;rw[S]at this;exact this));have t:=Aa (show F=(⟨LO.map Prod.fst,fr,parts⟩,none)from h.o);clear h eq S;go_enter func62,ntmps62;go_wp2_with fail;refine U.o.mono ?_;rintro _ w1 ⟨rfl,i⟩;have a:=ab.o.be i;have v:=Aa a;have O:=Aa (show FT B0 kR w w1 from FT.of_below i ai);have aA:=Ac a.qs.pa;have aq:=Ab a.qs.pa;clear i a;go_wp2_with fail;refine(Q.o _ v.o.qs.rd).mono ?_;rintro _ w2 ⟨rfl,J,k2⟩;have r:=v.o.call J k2;have N:=Aa r;have F2:=Aa (O.o.trans (KK.o _ _ k2 v.o));have aY:=Ac r.qs.pa;have aR:=Ab r.qs.pa;clear J k2 r;go_wp2_with fail;refine(P.o _ N.o.qs.rd).mono ?_;rintro _ w3 ⟨rfl,V,T⟩;have E:=N.o.call V T;have av:=Aa E;have aj:=Aa (F2.o.trans (KK.o _ _ T N.o));have ba:=Ac E.qs.pa;have a8:=Ab E.qs.pa;have aX:=Aa (Gc w3 b G s E.qs.rd);clear V T E;go_wp2_with fail;refine aX.o.mono ?_;rintro _ w4 ⟨rfl,aZ,aO⟩;have R:=Aa (show ML w w4 B0 p b q G ps F from by rw[t.o];exact⟨_,_,_,[],by rw[List.append_nil];exact av.o.call aZ aO,rfl,aj.o.trans (KK.o _ _ aO av.o)⟩);go_wp2;go_end0;exact⟨rfl,R.o⟩
end
theorem rF{a:Nat->St->As×List Ai×St}(hs:MO a)(n d:Nat)(typ:yF)(s:St):ln (FK a n d typ s).2<=ln (nK (BB (d+1) s) 14):=by
 unfold FK;have b:=hs (n+1) (nK (BB (d+1) s) 14);have c:=SE hs 801 (n+1+(a (n+1) (nK (BB (d+1) s) 14)).2.1.length) (a (n+1) (nK (BB (d+1) s) 14)).2.2;have e:=FB (Cr a 801 (n+1+(a (n+1) (nK (BB (d+1) s) 14)).2.1.length) (a (n+1) (nK (BB (d+1) s) 14)).2.2).2.2 15;simp only[];omega
theorem rB(n:Nat)(typ:yF)(s:St)(b:Ae s 14=true):ln (BD 11 n 0 typ s).2<ln s:=by
 have a:=rF (SD (Qa 10 1)) n 0 typ s;have c:BB 1 s=s:=rfl;rw[Nat.zero_add,c]at a;have d:=RW s 14 (by decide) b;exact Nat.lt_of_le_of_lt a d
theorem rA(n:Nat)(typ:yF)(s:St):1<=(BD 11 n 0 typ s).1.length/\(BD 11 n 0 typ s).1.length+ln (BD 11 n 0 typ s).2<=ln s+1:=Qa 11 0 n typ s
theorem XW(q:Qy)(s:St):(Cl q s).1.parts.length+ln (Cl q s).2<=q.parts.length+ln s+1/\ln (Cl q s).2<=ln s/\(Co s=false->ln (Cl q s).2<ln s)/\(Cl q s).1.ops.length<=q.ops.length+1/\(Cl q s).1.frags.length<=q.frags.length+1:=by
 have a:=rA;have g:=rB;unfold Cl;unfold II;cases h:Ae s 14
 rotate_left
 ·have c:=a q.parts.length ⟨#[]⟩ s
  have d:=g q.parts.length ⟨#[]⟩ s h;generalize BD 11 q.parts.length 0 ⟨#[]⟩ s=f at*;rw[xH rfl];simp only[xJ,List.length_singleton];omega
 rw[xG (by decide)];cases eq:Bu s KV
 rotate_left
 ·have b:=Mn s KV eq
  rw[xH rfl,My];have c:=Mo (tl s) (Ae (tl s) 1);have d:=Wh (mayT (tl s) (Ae (tl s) 1));generalize GF (mayT (tl s) (Ae (tl s) 1))=e at*;have k:=a q.parts.length ⟨#[]⟩ e.2;generalize BD 11 q.parts.length 0 ⟨#[]⟩ e.2=f at*;simp only[xJ,List.length_singleton];omega
 rw[xG (by decide)];cases i:Bu s KU
 rotate_left
 ·have b:=Mn s KU i
  rw[xH rfl];unfold EX II;simp only[];have c:ln (EY (tl s))<=ln (tl s):=by
   unfold EY;split
   ·simp[ln]
   ·exact wQ _
  have d:=Bg (EY (tl s));have k:=RX (nmT (EY (tl s))) Dw;have l:=Bg (nW (nmT (EY (tl s))) Dw);have m:=a q.parts.length (nm (nW (nmT (EY (tl s))) Dw)) (nmT (nW (nmT (EY (tl s))) Dw));generalize BD 11 q.parts.length 0 (nm (nW (nmT (EY (tl s))) Dw)) (nmT (nW (nmT (EY (tl s))) Dw))=f at*;simp only[xJ,List.length_singleton];omega
 ·rw[xG (by decide)]
  have b:ln (none:St)=0:=rfl;simp only[];refine⟨by omega,by omega,fun j=>?_,by omega,by omega⟩;have:=RY s j;omega
theorem qZ(f:Nat)(q:Qy)(s:St)(a:Co s=true):FJ f q s=(q,s):=by
 cases f with
 |zero=>rfl
 |succ f=>rw[FJ,xH a]
structure Fe(X:World)(B0 q:Nat)(Q:Qy)(ps:List Nat):Prop where
 ex:∃vO vF vP,∃LO:List Hl,X.heap[q]?=some (.cells #[vO,vF,vP] 112 (0,0))/\X.ownsRow B0 120 1 vP ps.length (ps.map pV)/\LO.map Prod.fst=Q.ops/\X.ownsRow B0 122 2 vO LO.length (LO.flatMap (oL ps))/\(∀x∈LO,Qz X B0 ps.length x)/\X.ownsRow B0 179 2 vF Q.frags.length (Q.frags.flatMap (Hy ps))
 ff:∀x∈Q.frags,x.2<ps.length
 n:ps.length=Q.parts.length
 pt:Bl X B0 ps 0 Q.parts
 lq:B0<=q
 l1:Q.ops.length<=2000
 l2:Q.frags.length<=2000
 l3:ps.length<=2000
theorem rW(x:yF)(w:World)(hs:x.size<=maxLen):
 Calls prog 40 #[.string x] w fun e w'=>∃q h,e=.returned (.tuple #[.pointer (some ⟨q,0,none⟩),.bool (Ec (Bk (Ad x)).2)])/\Fe w' w.heap.size q (Bk (Ad x)).1 h/\yG w w':=by
 have i:=Qd x w hs;have B:=Aa (Bk.eq_1 (Ad x));generalize Bk (Ad x)=z at*;generalize Ad x=E at*;go_enter func40,ntmps40;go_wp2_with fail;refine i.mono ?_;clear i;rintro e w1 ⟨b,G,rfl,hb,p,v⟩;have aI:=v.size;have ay:=p.len;have aF:=p.lt;have I:=Aa (show QE ((w1.alloc (.cells #[.slice none 0 0,.slice none 0 0,.slice none 0 0] 112)).alloc (.cells #[.pointer (some ⟨b,0,none⟩),.pointer (some ⟨w1.heap.size,0,none⟩),.int .i64 0] 171)) w.heap.size (w1.heap.size+1) b w1.heap.size G E (.slice none 0 0) (.slice none 0 0) [] [] [] []from
  ⟨⟨p.below (Jk w1 _ _),MC _ _ _,⟨_,LA _ _ _,xF _ _ _ _⟩,hb,by omega,by omega⟩,xF _ _ _ _,(fun x c=>by cases c),xF _ _ _ _,(fun x c=>by cases c),rfl,Bl.nil⟩)
 have K:=Aa (v.trans ((Jk w1 (.cells #[.slice none 0 0,.slice none 0 0,.slice none 0 0] 112) (.cells #[.pointer (some ⟨b,0,none⟩),.pointer (some ⟨w1.heap.size,0,none⟩),.int .i64 0] 171)).mono v.size));have hd:=Aa (Yk I.o (by simp;omega) (by simp) (by simp));have j:=XW ⟨[],[],[]⟩ E;clear p v;simp only[List.map_nil]at hd;generalize Cl ⟨[],[],[]⟩ E=cs at*;obtain⟨⟨ak,Z,ao⟩,s1⟩:=cs;simp only[List.length_nil]at j hd B;go_wp2_with fail;refine hd.o.mono ?_;rintro _ w2 ⟨rfl,au,aq,C,am,t,P,N⟩;rw[List.nil_append]at t;have J:=Aa t;have L:=Aa (K.o.trans N.below);have ad:C.map Prod.fst=ak:=P;subst ad;have aC:C.length<=1:=by have:=j.2.2.2.1;simpa using this
 have ai:=t.n;simp only[]at ai;clear t P N hd I K;go_wp2;go_loopg [] (ln s1) (fun m wr=>∃(H F:Value) (d:List Hl) (g:List Db) (parts:List Ai) (h:List Nat) (a:St) (f:Nat),ln a<=m/\ln a<=f/\QE wr w.heap.size (w1.heap.size+1) b w1.heap.size G a H F d g parts h/\yG w wr/\d.length+ln a<=803/\g.length+ln a<=803/\h.length+2*ln a<=1610/\z=FJ f ⟨d.map Prod.fst,g,parts⟩ a)
 case atStart=>exact⟨au,aq,C,Z,ao,am,s1,801,wQ _,by omega,J.o,L.o,by omega,by omega,by omega,B.o⟩
 case round=>
  obtain⟨H,F,d,g,parts,h,a,f,aB,az,l,R,aD,aA,aE,hrel⟩:=hrel;have y:=Aa l;have A:=Aa R;have s:=Aa hrel;have ax:=Ac l.qs.pa;have aJ:=Ab l.qs.pa;have i:=JA wr b G a l.qs.rd;have aG:=l.n;clear l R hrel J L B;cases c:Co a
  ·rw[c]at i
   have aH:=RY a c;obtain⟨u,rfl⟩:∃u,f=u+1:=⟨f-1,by omega⟩;have r:=Aa (show z=FJ u (Cl ⟨d.map Prod.fst,g,parts⟩ a).1 (Cl ⟨d.map Prod.fst,g,parts⟩ a).2 from by rw[s.o,FJ,xG (by rw[c];simp)]);have hd:=Aa (Yk y.o (by omega) (by omega) (by omega));have j:=XW ⟨d.map Prod.fst,g,parts⟩ a;have ah:=j.2.2.1 c;simp only[xT]at j;clear c s;generalize Cl ⟨d.map Prod.fst,g,parts⟩ a=cs at*;obtain⟨⟨al,aa,ap⟩,S⟩:=cs;simp only[]at hd j r ah;go_wp2_with fail;refine i.mono ?_;rintro _ w3 ⟨rfl,k⟩;have k:=k.symm;subst k;go_wp2_with fail;refine hd.o.mono ?_;rintro _ w4 ⟨rfl,av,ar,M,new,D,Q,O⟩;have ae:M.map Prod.fst=al:=Q;subst ae;have T:=Aa D;have V:=Aa (A.o.trans O.below);have aj:=D.n;simp only[xT]at j aj;clear D O hd Q;go_wp2;go_roundg (ln S)
   case measure=>omega
   case rel=>exact⟨av,ar,M,aa,ap,h++new,S,u,wQ _,by omega,T.o,V.o,by omega,by omega,by omega,r.o⟩
  ·rw[c]at i
   have r:=Aa (show z=(⟨d.map Prod.fst,g,parts⟩,a)from by rw[s.o,qZ _ _ _ c]);clear c s;go_wp2_with fail;refine i.mono ?_;rintro _ w3 ⟨rfl,k⟩;have k:=k.symm;subst k;have X:=Aa (fun(W:World) (af:yG wr W)=>Nq W b G a (y.o.qs.rd.below af));have U:=Aa (fun(Y:World) (ag:yG wr Y)=>(show Fe Y w.heap.size w1.heap.size ⟨d.map Prod.fst,g,parts⟩ h from by
    have e:=y.o.be ag;obtain⟨aw,p,ab⟩:=e.qs.qy;exact⟨⟨H,F,aw,d,p,ab,rfl,e.o,e.oo,e.f⟩,e.ff,e.n,e.pt,e.qs.lq,by simp;omega,by show g.length<=2000;omega,by omega⟩))
   go_wp2;go_region_with (go_at_call 64;refine(X.o _ ?_).mono ?_;(first|exact(wR _ _).drew|exact wR _ _);rintro e w4 ⟨rfl,rfl⟩);all_goals(
    go_wp2;go_ret2;rw[r.o];exact⟨_,h,rfl,U.o _ (by first|exact(wR _ _).drew|exact wR _ _),by first|exact A.o.drew|exact A.o⟩)
end Go.Proofs.YtogdodlibkckkaaGreatDoor
