import Derived.Test.YtgbloieahmkcjaaGreatC30
namespace Go.Proofs.YtgbloieahmkcjaaGreat
set_option maxHeartbeats 20000000
set_option maxRecDepth 100000
open Go.RowKit Tryz
theorem J8(vR:Value)(aD:Option Addr)(cD:Nat)(Lu:List aj)(Lv:List ap)(Lw:Nat->List aK)(LK vid:Ls)(aY:Option Addr)(cY:Nat)(ys:List bo)(aL:Option Addr)(cL:Nat)(w:World)
 (hE:zj w vR aD cD Lu Lv Lw) (hY:eM w (.slice aY ys.length cY) ys) (hL:lN w (.slice aL ys.length cL) (ys.map (bO Lv))) (hyl:ys.length<=200) (hok:∀y∈ys,il Lv y=true) (hcl:∀y∈ys,y.2.2.length<=1000000):
 Calls prog 29 #[.agg #[vR,.slice aD Lv.length cD],.slice aY ys.length cY,.slice aL ys.length cL,.agg #[.string LK,.string vid]] w fun e w'=>∃vO xs,e=.returned vO/\dw w' w.heap.size vO xs/\xs.map (·.1)=nG Lu Lv Lw LK vid ys/\Lt w w':=by
 obtain⟨aR,cR,rfl,_⟩:=id hE.r;obtain⟨iY,hiY,zY0,zY1,zY2⟩:=info_parts info37;obtain⟨iC,hiC,zC0,zC1,zC2⟩:=info_parts info34;have HE:=aa hE;have HY:=aa hY;have HLL:=aa hL;have hdl:=hE.dl;have hrl:=hE.rl;clear hE hY hL;go_enter func29,ntmps29;go_wp2_with fail;obtain⟨X1,X2,X3⟩:=uw w (.cells #[.slice aR Lu.length cR,.slice aD Lv.length cD] 62) (.cells #[.string LK,.string vid] 25);generalize (w.alloc (.cells #[.slice aR Lu.length cR,.slice aD Lv.length cD] 62)).alloc (.cells #[.string LK,.string vid] 25)=W2 at*;have hl1:=ag X1;have hl2:=ag X2;have HX1:=aa X1;have HX2:=aa X2;have HX3:=aa X3;clear X1 X2 X3;go_loopg [9,10,11,12,13,14,15,16,17] ys.length (fun m v9 v10 v11 v12 v13 v14 v15 v16 v17 wr=>∃(i:Nat) (xs:List OX),v10=.int .i64 i/\i<=ys.length/\ys.length-i<=m/\xs.length<=i/\dw wr W2.heap.size v9 xs/\Lt W2 wr/\xs.map (·.1)=nG Lu Lv Lw LK vid (ys.take i))
 case atStart=>exact⟨0,[],rfl,KU _,KK _,KK _,dw.nil _ _,KL _ _,rfl⟩
 case round=>
  obtain⟨i,xs,rfl,hil,hm,hxi,hO,hb,hxs⟩:=hrel;obtain⟨aO,cO,hvO⟩:=bc hO.own;subst hvO;have cX:=ae ((hb.block _ hl1).trans HX1.o);have cU:=ae ((hb.block _ hl2).trans HX2.o);have hl1r:w.heap.size<wr.heap.size:=KV hl1 hb.size;have hl2r:w.heap.size+1<wr.heap.size:=KV hl2 hb.size;have HB:=aa hb;have HO:=aa hO;have HXS:=aa hxs;have hxl:xs.length<=200:=by omega
  clear hO hb hxs;by_cases hlt:i<ys.length
  ·obtain⟨y,hy⟩:∃y,ys[i]?=some y:=⟨_,KM hlt⟩
   have hym:=KN hy;have hr:(ys.map (bO Lv))[i]?=some (bO Lv y):=by rw[La,hy];rfl
   have hrl2:=wR (hok y hym);obtain⟨d,hd⟩:∃d,Lv[(bO Lv y).d]?=some d:=⟨_,KM hrl2⟩;have hdm:=KN hd;have hBr:=bT HX3.o HB.o;have hLr:=HLL.o.below hBr;rw[<-Ll (f:=bO Lv)]at hLr;obtain⟨gL,aN,cN,aV,cV,fs,e,l0,l1,l2,l3,Ma⟩:=hLr.at hr;subst e;have hgL:gL<wr.heap.size:=KQ wr _ l0;have HC:=aa (fun W (hW:Lt wr W)=>JR W aD cD (bO Lv y).d (.slice aR Lu.length cR) (.slice aN (bO Lv y).names.length cN) (.slice aV fs.length cV) LK vid (bO Lv y).id Lu Lv d (bO Lv y).names fs (Lw (bO Lv y).d) (HE.o.d.below (bT hBr hW)) hd (by omega) (HE.o.r.below (bT hBr hW)) HE.o.rl HE.o.ri (Ma.n.below hW) (Ma.v.below hW) (by rw[Ma.l.1,Ma.e]) (by simpa [bO]using hcl y hym) (HE.o.df d hdm).2.2 (HE.o.df d hdm).2.1 (HE.o.g _ d hd));rw[show(⟨ic Lu LK,fun n=>mE (bR (bO Lv y).names fs n),vid⟩:lH)=pB Lu LK vid (bO Lv y)from by
    unfold pB;congr 1;funext n;exact Da n _ _ _ Ma.l]at HC
   have HSR:=aa (show oh Lu Lv Lw LK vid y=if pE d.LC (pB Lu LK vid (bO Lv y)) (Lw (bO Lv y).d)=true then none else some (y.1,y.2.1,y.2.2.filter fun c=>mN Lu LK d.fields c.1)from by unfold oh;simp only[hd]);have HTK:=aa (show nG Lu Lv Lw LK vid (ys.take (i+1))=nG Lu Lv Lw LK vid (ys.take i)++(oh Lu Lv Lw LK vid y).toList from by
    unfold nG;rw[Ld,hy,List.filterMap_append];cases h:oh Lu Lv Lw LK vid y<;>simp[h])
   generalize pE d.LC (pB Lu LK vid (bO Lv y)) (Lw (bO Lv y).d)=gone at*;generalize (bO Lv y).id=rid at*;generalize (bO Lv y).names=rns at*;have HRR:=aa hr;have HDM:=aa (And.intro hd (And.intro hdm (And.intro hym hy)));clear hr Ma hLr hd hdm hym hy;go_upto_region 5 with fail;go_cut [11] (fun v11 wc=>v11=.bool gone/\Lt wr wc)
   case first=>
    have hi0:(0:Int)<=(i:Int):=by omega
    have hi1:(i:Int)<(ys.length:Int):=by omega
    have HS:=aa (fun W (hW:Lt wr W)=>And.intro hW (And.intro (ao hW l0) (And.intro (ao hW l1) (And.intro (ao hW l2) (And.intro (ao hW l3) (And.intro (fun k=>(hW.cell (p:=⟨w.heap.size,k,none⟩) hl1r).trans (cX k)) (fun k=>(hW.cell (p:=⟨w.heap.size+1,k,none⟩) hl2r).trans (cU k))))))));clear l0 l1 l2 l3 cX cU HE HY HLL HX1 HX2 HX3 HB HO HXS HSR HTK HRR HDM hBr;go_region_held3 (fun W=>Lt wr W/\W.cell? ⟨gL,i*4,none⟩=some (.int .i64 (bO Lv y).d)/\W.cell? ⟨gL,i*4+1,none⟩=some (.string rid)/\W.cell? ⟨gL,i*4+2,none⟩=some (.slice aN rns.length cN)/\W.cell? ⟨gL,i*4+3,none⟩=some (.slice aV fs.length cV)/\(∀k,W.cell? ⟨w.heap.size,k,none⟩=(#[.slice aR Lu.length cR,.slice aD Lv.length cD]:Array Value)[k]?)/\(∀k,W.cell? ⟨w.heap.size+1,k,none⟩=(#[.string LK,.string vid]:Array Value)[k]?))
     (first|exact HS.o _ (KL _ _).drew|exact HS.o _ (bT bh b1))
     (first|(go_at_call 50;obtain⟨bh, -⟩:= ‹Lt wr _/\_›;refine(HC.o _ bh).mono ?_;rintro _ w1 ⟨rfl,b1⟩))
    all_goals(obtain⟨bh, -⟩:= ‹Lt wr _/\_›;(try go_wp2_with fail);go_meet;exact⟨rfl,bh⟩)
   case rest=>
    obtain⟨rfl,hbc⟩:=hcut;have HBC:=aa (bT HB.o hbc);have HO1:=aa (HO.o.far (fun k _ h2=>hbc.block k h2) hbc.size);obtain⟨wa,rfl⟩:∃wa:World,wa=wc:=⟨_,rfl⟩;have MM:=hbc.size;clear l0 l1 l2 l3 HC cX cU hgL hbc;cases gone
    rotate_left
    ·rw[K9 rfl]at HSR
     go_wp2_with fail;go_roundg (ys.length-(i+1))
     case measure=>omega
     case rel=>exact⟨i+1,xs,by go_num,by omega,KK _,by omega,HO1.o,HBC.o,by rw[HTK.o,HSR.o,HXS.o];simp⟩
    ·rw[K8 (by simp)]at HSR
     have hYr:=HY.o.below (bT HX3.o HBC.o);obtain⟨gY,oY,aC,cC,e,y0,y1,y2,hyc⟩:=hYr.at HDM.o.2.2.2;subst e;have hgY:gY<wa.heap.size:=KQ wa _ y0;clear hYr;go_upto_region 7 with fail;go_cut [12] (fun v12 wc=>∃N,v12=.pointer (some ⟨N,0,none⟩)/\wa.heap.size<=N/\wc.heap[N]?=some (.cells #[.string y.1,.string y.2.1,.slice none 0 0] 37 (0,0))/\Lt wa wc)
     case first=>
      go_region;all_goals(try go_wp2_with fail)
      all_goals(go_meet;first
       |exact⟨wa.heap.size,rfl,KK _,KS wa _,bA (KL _ _) _⟩
       |exact⟨wa.heap.size,rfl,KK _,KS wa.drew _,bA (KL _ _).drew _⟩
       |exact⟨wa.heap.size,rfl,KK _,KS wa _,(bA (KL _ _) _).drew⟩)
     case rest=>
      obtain⟨N,rfl,hNl,hN,hbc⟩:=hcut;obtain⟨wb,rfl⟩:∃wb:World,wb=wc:=⟨_,rfl⟩;have hNb:=ag hN;have HN:=aa hN;have HBB:=aa hbc;have hszb:=hbc.size;have hycl:y.2.2.length<=1000000:=hcl y HDM.o.2.2.1;have HYC:=aa (show kK wa (.slice aC y.2.2.length cC) y.2.2 from hyc);have y2:=ao hbc y2;have hgYb:gY<wb.heap.size:=KV hgY hbc.size;clear hN hbc hyc y0 y1;go_wp2_with fail;go_loopg [13,14,15,16,17] y.2.2.length (fun m v13 v14 v15 v16 v17 wr=>∃(k:Nat) (vC:Value) (cs:List dd),v13=.int .i64 k/\k<=y.2.2.length/\y.2.2.length-k<=m/\wr.heap[N]?=some (.cells #[.string y.1,.string y.2.1,vC] 37 (0,0))/\wr.ownsRow wb.heap.size 34 2 vC cs.length (cs.flatMap et)/\cs.length<=k/\cs=(y.2.2.take k).filter (fun c=>mN Lu LK d.fields c.1)/\Lt wa wr/\wb.heap.size<=wr.heap.size)
      case atStart=>exact⟨0,_,[],rfl,KU _,KK _,HN.o,K7 _ _ _ _,KK _,rfl,HBB.o,KK _⟩
      case round=>
       clear y2;obtain⟨k,vC,cs,rfl,hkl,hm2,hNr,hoC,hck,hcs,hb,hsb⟩:=hrel;obtain⟨aQ,cQ,hvQ⟩:=bc hoC;subst hvQ;have HNR:=aa hNr;have cN':=ae hNr;have fN':=ar hNr;have hlN':=ag hNr;have HOC:=aa hoC;have HCS:=aa hcs;have HBK:=aa hb;have hBw:=bT (bT HX3.o HBC.o) hb;have hYr:=HY.o.below hBw;obtain⟨gY',oY',aC',cC',e,y0,y1,y2,hyc⟩:=hYr.at HDM.o.2.2.2;cases e;have hgYr:gY<wr.heap.size:=KQ wr _ y0;clear hNr hoC hcs hb hYr;by_cases Ml:k<y.2.2.length
       ·obtain⟨c,hc⟩:∃c,y.2.2[k]?=some c:=⟨_,KM Ml⟩
        obtain⟨gC,oC,e,c0,c1⟩:=hyc.at hc;subst e;have hgC:gC<wr.heap.size:=KQ wr _ c0;have hBx:=bT HBC.o HBK.o;have cX:=ae ((hBx.block _ hl1).trans HX1.o);have cU:=ae ((hBx.block _ hl2).trans HX2.o);have hl1r:w.heap.size<wr.heap.size:=KV hl1 hBx.size;have hl2r:w.heap.size+1<wr.heap.size:=KV hl2 hBx.size;have hLr:=HLL.o.below hBw;rw[<-Ll (f:=bO Lv)]at hLr;obtain⟨gL',aN',cN2,aV',cV',fs',e,l0,l1,l2,l3,_⟩:=hLr.at HRR.o;cases e;have hgL:gL<wr.heap.size:=KQ wr _ l0;obtain⟨gD,aF,cF,aA,cA,aT,cT,e,d0,d1,d2,d3,d4,d5,hda⟩:=(HE.o.d.below hBw).at HDM.o.1;subst e;have hgD:gD<wr.heap.size:=KQ wr _ d0;have Og:¬ah (d.fields.map bj.name) c.1<0:=by
         have hyo:=hok y HDM.o.2.2.1;unfold il at hyo;rw[show Lv[(ah (Lv.map ap.name) y.1).toNat]?=some d from HDM.o.1]at hyo;simp only[Li]at hyo;exact vz d.fields y.2.2 [] hyo.2.2.2 c (KN hc)
        obtain⟨fi,fld,hfi,NA,hfnm,hfil⟩:=iW bj.name d.fields c.1 Og;obtain⟨gF,e,f0,f1,f2,f3,f4⟩:=hda.f.at NA;cases e;have hgF:gF<wr.heap.size:=KQ wr _ f0;have hdfl:=(HE.o.df d HDM.o.2.1).1;have HFN:=aa (fun W (hW:Lt wr W)=>rt d.sort d.name aA aT d.Ly.length cA d.Lw.length cT d.LC (.slice (some ⟨gF,0,none⟩) d.fields.length cF) c.1 (d.fields.map bj.name) W ((hda.f.below hW).names) (by simp;omega));rw[hfi]at HFN;have HSF:=aa (show mN Lu LK d.fields c.1=(ic Lu LK fld.LG&&ic Lu LK fld.LH)from by unfold mN;simp only[hfi,Lk,NA]);have HCT:=aa (show(y.2.2.take (k+1)).filter (fun c=>mN Lu LK d.fields c.1)=cs++(if mN Lu LK d.fields c.1=true then [c]else [])from by
         rw[Ld,hc,List.filter_append,HCS.o];simp only[Option.toList];rw[List.filter_cons];split<;>simp)
        have hrd2:=wR (hok y HDM.o.2.2.1);clear hyc hLr hda Og hfi NA hfnm l1 l2 l3;go_upto_region 11 with fail;go_cut [14] (fun v14 wc=>∃M,v14=.pointer (some ⟨M,0,none⟩)/\wr.heap.size<=M/\wc.heap[M]?=some (.cells #[.int .i64 d.sort,.string d.name,.slice (some ⟨gF,0,none⟩) d.fields.length cF,.slice aA d.Ly.length cA,.bool d.LC,.slice aT d.Lw.length cT] 96 (0,0))/\Lt wr wc)
        case first=>
         go_region;all_goals(try go_wp2_with fail)
         all_goals(go_meet;first
          |exact⟨wr.heap.size,rfl,KK _,KS wr _,bA (KL _ _) _⟩
          |exact⟨wr.heap.size,rfl,KK _,KS wr.drew _,bA (KL _ _).drew _⟩
          |exact⟨wr.heap.size,rfl,KK _,KS wr _,(bA (KL _ _) _).drew⟩)
        case rest=>
         obtain⟨M,rfl,hMl,hM,hbc⟩:=hcut;obtain⟨wd,rfl⟩:∃wd:World,wd=wc:=⟨_,rfl⟩;have cM:=ae hM;have hlM:=ag hM;have HBD:=aa hbc;have c0:=ao hbc c0;have c1:=ao hbc c1;have y2:=ao hbc y2;have f0:=ao hbc f0;have f1:=ao hbc f1;have f2:=ao hbc f2;have f3:=ao hbc f3;have f4:=ao hbc f4;have cX:=fun k=>(hbc.cell (p:=⟨w.heap.size,k,none⟩) hl1r).trans (cX k);have cU:=fun k=>(hbc.cell (p:=⟨w.heap.size+1,k,none⟩) hl2r).trans (cU k);have hszd:=hbc.size;have HNR2:=aa ((hbc.block _ hlN').trans HNR.o);have HFN2:=aa (fun W (hW:Lt wd W)=>HFN.o W (bT HBD.o hW));clear d0 d1 d2 d3 d4 d5 l0 hbc hM y0 y1 HFN cN' fN';go_upto_region 12 with fail;go_cut [15] (fun v15 we=>∃P,v15=.pointer (some ⟨P,0,none⟩)/\we.heap[P]?=some (.cells #[.string fld.name,.string fld.arg,.string fld.ty,.string fld.LG,.string fld.LH] 121 (0,0))/\Lt wd we)
         case first=>
          clear HBD HCT HSF HNR2 HNR HOC HCS HBK hBw HN HBB HYC HBC HO1 HDM HRR HSR HTK HB HO HXS HX1 HX2 HX3 HE HY HLL cX cU hszd hMl hgY hgYr hgL hgD hgC;have hgFd:gF<wd.heap.size:=KQ wd _ f0;have hgCd:gC<wd.heap.size:=KQ wd _ c0;have hgYd:gY<wd.heap.size:=KQ wd _ y2;have hk0:(0:Int)<=(k:Int):=by omega
          have hk1:(k:Int)<(y.2.2.length:Int):=by omega
          have hi0:(0:Int)<=(i:Int):=by omega
          have hi1:(i:Int)<(ys.length:Int):=by omega
          have hF0:(0:Int)<=(fi:Int):=by omega
          have hF1:(fi:Int)<(d.fields.length:Int):=by omega
          have HS:=aa (fun W (hW:Lt wd W)=>And.intro hW (And.intro (ao hW c0) (And.intro (ao hW y2) (And.intro (ao hW f0) (And.intro (ao hW f1) (And.intro (ao hW f2) (And.intro (ao hW f3) (And.intro (ao hW f4) (fun k=>(hW.cell (p:=⟨M,k,none⟩) hlM).trans (cM k))))))))));clear c0 c1 y2 f0 f1 f2 f3 f4 cM;go_region_held3 (fun W=>Lt wd W/\W.cell? ⟨gC,oC+k*2,none⟩=some (.string c.1)/\W.cell? ⟨gY,oY+i*3+2,none⟩=some (.slice (some ⟨gC,oC,none⟩) y.2.2.length cC')/\W.cell? ⟨gF,fi*5,none⟩=some (.string fld.name)/\W.cell? ⟨gF,fi*5+1,none⟩=some (.string fld.arg)/\W.cell? ⟨gF,fi*5+2,none⟩=some (.string fld.ty)/\W.cell? ⟨gF,fi*5+3,none⟩=some (.string fld.LG)/\W.cell? ⟨gF,fi*5+4,none⟩=some (.string fld.LH)/\(∀k,W.cell? ⟨M,k,none⟩=(#[.int .i64 d.sort,.string d.name,.slice (some ⟨gF,0,none⟩) d.fields.length cF,.slice aA d.Ly.length cA,.bool d.LC,.slice aT d.Lw.length cT]:Array Value)[k]?))
           (first|exact HS.o _ (KL _ _).drew|exact HS.o _ bW|(refine HS.o _ ?_;repeat' with_reducible first|exact bW|exact KL _ _|refine Below.drew ?_|refine bA ?_ _|refine bS ?_ _ (KK _) _))
           (first|(go_at_call 49;obtain⟨bh, -⟩:= ‹Lt wd _/\_›;refine(HFN2.o _ bh).mono ?_;rintro _ w1 ⟨rfl,b1⟩;have bW:=bT bh b1;(try(have hz:w1.heap[wd.heap.size]?=some (.cells #[.string ⟨#[]⟩,.string ⟨#[]⟩,.string ⟨#[]⟩,.string ⟨#[]⟩,.string ⟨#[]⟩] 121):=(by first|exact(b1.block wd.heap.size (show wd.heap.size<(wd.alloc (.cells #[.string ⟨#[]⟩,.string ⟨#[]⟩,.string ⟨#[]⟩,.string ⟨#[]⟩,.string ⟨#[]⟩] 121)).heap.size by simp)).trans (KS wd _));have hzc:=ae hz;have hzf:=ar hz;have hzl:=ag hz))))
          all_goals(try go_wp2_with fail)
          all_goals go_meet
          ·exact⟨w1.heap.size,rfl,KS w1 _,bA bW _⟩
          ·refine⟨wd.heap.size,rfl,Gb hz _ _ _ _ _,?_⟩
           exact bS (bS (bS (bS (bS bW _ (KK _) _) _ (KK _) _) _ (KK _) _) _ (KK _) _) _ (KK _) _
         case rest=>
          obtain⟨P,rfl,hP,hbe⟩:=hcut;obtain⟨we,rfl⟩:∃we:World,we=wc:=⟨_,rfl⟩;have cP:=ae hP;have hlP:=ag hP;have cX:=fun k=>(hbe.cell (p:=⟨w.heap.size,k,none⟩) (KV hl1r hszd)).trans (cX k);have cU:=fun k=>(hbe.cell (p:=⟨w.heap.size+1,k,none⟩) (KV hl2r hszd)).trans (cU k);have HBE:=aa (bT HBD.o hbe);have HP:=aa hP;have HHA:=aa (fun W (hW:Lt we W)=>wm (some ⟨gD,0,none⟩) Lv.length cD (.slice aR Lu.length cR) LK fld.LG Lu W (HE.o.r.below (bT (bT hBw HBE.o) hW)) hrl HE.o.ri);have HHH:=aa (fun W (hW:Lt we W)=>wm (some ⟨gD,0,none⟩) Lv.length cD (.slice aR Lu.length cR) LK fld.LH Lu W (HE.o.r.below (bT (bT hBw HBE.o) hW)) hrl HE.o.ri);generalize ic Lu LK fld.LG=qa at*;generalize ic Lu LK fld.LH=qh at*;have HCC:=aa (And.intro (ao hbe c0) (And.intro (ao hbe c1) (ao hbe y2)));have HNE:=aa ((hbe.block _ (KV hlN' hszd)).trans HNR2.o);have hsze:=hbe.size;clear f0 f1 f2 f3 f4 c0 c1 y2 cM hbe hP HFN2;go_wp2_with fail;refine(HHA.o _ (KL _ _)).mono ?_;rintro _ wf ⟨rfl,bf⟩;have cX:=fun k=>(bf.cell (p:=⟨w.heap.size,k,none⟩) (KV hl1r (KP hszd hsze))).trans (cX k);have cU:=fun k=>(bf.cell (p:=⟨w.heap.size+1,k,none⟩) (KV hl2r (KP hszd hsze))).trans (cU k);have cP:=ae ((bf.block _ hlP).trans HP.o);go_wp2_with fail;refine(HHH.o _ bf).mono ?_;rintro _ wg ⟨rfl,bg⟩;have hfg:=bT bf bg;have HBG:=aa (bT HBE.o hfg);have hN9:=(hfg.block _ (by omega)).trans HNE.o;have cN9:=ae hN9;have fN9:=ar hN9;have hlN9:=ag hN9;have HN9:=aa hN9;have c0:=ao hfg HCC.o.1;have c1:=ao hfg HCC.o.2.1;have y2:=ao hfg HCC.o.2.2;have hszg:wr.heap.size<=wg.heap.size:=HBG.o.size;have hgY9:gY<wg.heap.size:=by omega
          have hgC9:gC<wg.heap.size:=by omega
          have HO9:=aa (bZ HOC.o HBG.o);have hb9:=aa (bT HBK.o HBG.o);clear cX cU cP HHA HHH bf bg hN9 hfg HCC HNE HNR2 HP;cases qa
          ·go_wp2_with fail
           go_roundg (y.2.2.length-(k+1))
           case measure=>omega
           case rel=>exact⟨k+1,_,cs,by go_num,by omega,KK _,HN9.o,HO9.o,by omega,by rw[HCT.o,HSF.o];simp,hb9.o,by omega⟩
          ·cases qh
           ·go_wp2_with fail
            go_roundg (y.2.2.length-(k+1))
            case measure=>omega
            case rel=>exact⟨k+1,_,cs,by go_num,by omega,KK _,HN9.o,HO9.o,by omega,by rw[HCT.o,HSF.o];simp,hb9.o,by omega⟩
           ·have hne:Option.some N≠(Value.slice aQ cs.length cQ).ownBlock:=fun e=>jC HOC.o hNb e.symm
            have hcsl:cs.length<=1000000:=by omega
            have hszbg:wb.heap.size<=wg.heap.size:=by omega
            go_wp2_with fail;go_region_law (first|(refine step_append_lies _ (by rfl) _ _ _ (by rfl) wb.heap.size 34 iC _ 2 32 underlying35 hiC zC0 zC1 zC2 rfl (by decide) _ _ _ (by rfl) (bZ HO9.o (by repeat' with_reducible first|exact KL _ _|refine bA ?_ _|refine Below.drew ?_)) ⟨wg.heap.size,0,none⟩ 1 1 [.string c.1,.string c.2] (by rfl) (by rfl) (de _ _ _ _ (by simp)) (pZ rfl rfl) (by decide) (by unfold maxLen;omega) (by omega) (by simp;omega) (wg.heap.size+1) (by simp) ?_;intro g cap w5 LV hgrow hat hg5;have g5:=(hgrow.block N (by simp;omega) hne).trans ((by first|exact(bA (KL wg.heap.size wg) _).block _ hlN9|exact(bA (KL wg.heap.size wg) _).drew.block _ hlN9:_=wg.heap[N]?).trans HN9.o);have e5:=ae g5;have f5:=ar g5));all_goals(try go_wp2_with fail)
            all_goals(
             have NC:=hgrow.size;simp at NC;go_roundg (y.2.2.length-(k+1))
             case measure=>omega
             case rel=>
              refine⟨k+1,_,cs++[c],by go_num,by omega,KK _,aJ g5 2 _,?_,by simp;omega,by rw[HCT.o,HSF.o];simp,?_,by simp[World.setCell];omega⟩
              ·rw[Lb,List.flatMap_append]
               exact rU LV hNb 2 _
              ·exact⟨hgrow.os.trans hb9.o.os,hgrow.tape.trans hb9.o.tape,hgrow.output.trans hb9.o.output,by have:=hb9.o.size;simp[World.setCell];omega,fun j hj=>(KX _ _ _ _ (show j≠N by omega)).trans ((hgrow.block j (by have:=hb9.o.size;simp;omega) (fun e=>jC HOC.o (show j<wb.heap.size by omega) e.symm)).trans ((by first|exact(bA (KL wg.heap.size wg) _).block _ (by have:=hb9.o.size;omega)|exact(bA (KL wg.heap.size wg) _).drew.block _ (by have:=hb9.o.size;omega):_=wg.heap[j]?).trans (hb9.o.block j hj)))⟩)
       ·have hke:k=y.2.2.length:=by omega
        subst hke;have HSR2:=aa (show oh Lu Lv Lw LK vid y=some (y.1,y.2.1,cs)from by rw[HSR.o,HCS.o,List.take_length]);have HO2:=aa (HO1.o.far (w':=wr) (fun j _ h2=>HBK.o.block j h2) HBK.o.size);have hsw:=HBC.o.size;go_wp2_with (at_builtin;refine wpList_append_lies _ rfl _ _ 23 rfl W2.heap.size 37 iY _ 3 56 underlying23 hiY zY0 zY1 zY2 rfl (by decide) _ _ _ rfl (HO2.o.own.alloc _) ⟨wr.heap.size,0,none⟩ 1 1 [.string y.1,.string y.2.1,.slice aQ cs.length cQ] rfl rfl (de _ _ _ _ (by simp)) (BO rfl rfl rfl) (by decide) (by unfold maxLen;omega) (by omega) (by simp;omega) (wr.heap.size+1) (by simp) ?_;intro g' LM x3 hown' hgrow hwh hgs;have MS:=aa hown';have LT:=aa hgrow;have HWH:=aa hwh;clear hown' hgrow hwh);have hgz:=LT.o.size;simp at hgz;have MX:=aa (show∀j,j<wr.heap.size->(Value.slice aO xs.length cO).ownBlock≠some j->x3.heap[j]?=wr.heap[j]? from fun j h1 h2=>(LT.o.block j (by simp;omega) (fun e=>h2 e.symm)).trans (bp _ _ _ h1));have hlt':∀j,(Value.slice aO xs.length cO).ownBlock=some j->j<wa.heap.size:=fun j hj=>ep HO1.o.own j hj;go_roundg (ys.length-(i+1))
        case measure=>omega
        case rel=>
         refine⟨i+1,xs++[((y.1,y.2.1,cs),.slice aQ cs.length cQ)],by go_num,by omega,KK _,by simp;omega,?_,?_,?_⟩
         ·exact HO2.o.push (x:=((y.1,y.2.1,cs),.slice aQ cs.length cQ)) HOC.o (by omega) (fun z hz g e=>by have:=ep (HO1.o.sub z hz) g e;omega) MS.o (fun j _ h2 h3=>MX.o j h2 h3)
         ·have hb:=bT HBC.o HBK.o
          exact⟨LT.o.os.trans hb.os,LT.o.tape.trans hb.tape,LT.o.output.trans hb.output,by have:=hb.size;omega,fun j hj=>(MX.o j (by have:=HBK.o.size;omega) (jC HO1.o.own (by omega))).trans (hb.block j hj)⟩
         ·rw[HTK.o,HSR2.o,Lr,HXS.o];rfl
  ·have hie:i=ys.length:=by omega
   subst hie;go_wp2_with fail;go_ret;exact⟨_,xs,rfl,HO.o.low HX3.o.size,by rw[HXS.o,List.take_length],bT HX3.o HB.o⟩
noncomputable def seesR (Lw:Nat->List aK) (x:Ls) (ys:List bo) (LK vid:Ls):List bo×Nat:=
 if lW x≠0 then([],lW x)
 else if storeOk (cE (av x)).1.Lv ys=false then([],3)
 else if ah ((cE (av x)).1.Lu.map aj.name) LK<0 then([],4)
 else(nG (cE (av x)).1.Lu (cE (av x)).1.Lv Lw LK vid ys,0)
structure Cv(Lu:List aj)(Lv:List ap)(Lw:Nat->List aK):Prop where
 rl:Lu.length<=801
 ri:(fQ Lu).length<=700000
 dl:Lv.length<=801
 df:∀d∈Lv,d.fields.length<=801/\d.Ly.length<=801/\d.sort<=2/\d.Lw.length<=801/\∀t∈d.Lw,io t
 ty:∀d∈Lv,∀f∈d.fields,∃ty,fZ ty/\ci ty=f.ty/\f.ty.size<=100000/\(co (bN ty)=true\/¬ah (Lv.map ap.name) (bN ty)<0)
 g:∀k d,Lv[k]?=some d->d.LC=true->dn 2 d.Lw (Lw k)
theorem Gy(Lw:Nat->List aK)(x LK vid:Ls)(aY:Option Addr)(cY:Nat)(ys:List bo)(w:World)(hs:x.size<=maxLen)(hokd:jv (cE (av x)).2=true->∀d∈(cE (av x)).1.Lv,mx d)
 (hY:eM w (.slice aY ys.length cY) ys) (hyl:ys.length<=1000000) (hcl:∀y∈ys,y.2.2.length<=1000000/\∀c∈y.2.2,c.2.size<=maxLen) (hS:lW x=0->Cv (cE (av x)).1.Lu (cE (av x)).1.Lv Lw):
 Calls prog 14 #[.string x,.slice aY ys.length cY,.agg #[.string LK,.string vid]] w fun e w'=>∃vO xs,e=.returned (.tuple #[vO,.int .i64 (seesR Lw x ys LK vid).2])/\dw w' w.heap.size vO xs/\xs.map (·.1)=(seesR Lw x ys LK vid).1/\Lt w w':=by
 have HQ:=aa (seesR.eq_1 Lw x ys LK vid);generalize seesR Lw x ys LK vid=q at*;have hc:=fun W=>Jc x W hs hokd;have HY:=aa hY;have HS:=aa hS;have HCL:=aa hcl;clear hokd hY hS hcl;generalize lW x=ck at*;generalize (cE (av x)).1.Lu=Lu at*;generalize (cE (av x)).1.Lv=Lv at*;go_enter func14,ntmps14;go_wp2_with fail;refine(hc _).mono ?_;clear hc;rintro _ w1 ⟨aR,nR,cR,aD,nD,cD,rfl,MU,b1⟩;have cU:=ae ((b1.block _ (by simp)).trans (mX w (.cells #[.string LK,.string vid] 25)));have hlU:w.heap.size<w1.heap.size:=by have:=b1.size;simp at this;omega
 have HB1:=aa (bT (bA (KL w.heap.size w) _) b1);clear b1;have RET:=aa (fun(X:World) (n:Nat) (hX:Lt w1 X) (hq:q=([],n))=>show∃vO xs,Ending.returned (Value.tuple #[.slice none 0 0,.int .i64 n])=.returned (.tuple #[vO,.int .i64 q.2])/\dw X w.heap.size vO xs/\xs.map (·.1)=q.1/\Lt w X from
  ⟨.slice none 0 0,[],by rw[hq],dw.nil _ _,by rw[hq];rfl,bT HB1.o hX⟩)
 by_cases hck:ck=0
 rotate_left
 ·have hne:((ck:Int)!=0)=true:=by simp;omega
  have HF:=aa (show q=([],ck)from by rw[HQ.o,K9 hck]);clear HQ hck;go_wp2_with fail;exact bodyPost_ret (v:=.tuple #[.slice none 0 0,.int .i64 ck]) (by simp[results,results14,go_sem]) rfl (RET.o _ ck (bA (KL _ _) _) HF.o)
 ·subst hck
  obtain⟨hR,hD⟩:=MU rfl;have hSO:=HS.o rfl;have HR:=aa hR;have HD:=aa hD;obtain⟨a1,c1,e1,_⟩:=hR;cases e1;obtain⟨a2,c2,e2,_⟩:=hD;cases e2;have HSO:=aa hSO;have HQ2:=aa (show q=if storeOk Lv ys=false then([],3)else if ah (Lu.map aj.name) LK<0 then([],4)else(nG Lu Lv Lw LK vid ys,0)from by rw[HQ.o,K8 (by simp)]);have HST:=aa (fun W (hW:Lt w1 W)=>I7 aR Lu.length cR aD cD Lv aY cY ys W (HD.o.below hW) (HY.o.below (bT HB1.o hW)) HSO.o.dl (fun d hd=>⟨(HSO.o.df d hd).1,(HSO.o.df d hd).2.1,(HSO.o.df d hd).2.2.1⟩) HSO.o.ty hyl (fun y hy=>⟨by have:=(HCL.o y hy).1;omega,(HCL.o y hy).2⟩));have HXR:=aa (fun W (hW:Lt w1 W)=>rB aD Lv.length cD (.slice aR Lu.length cR) LK (Lu.map aj.name) W ((HR.o.below hW).names) (by have:=HSO.o.rl;simp;omega));clear hSO HQ MU HS;go_wp2_with fail;refine(HST.o _ (bA (KL _ _) _)).mono ?_;rintro _ w2 ⟨vL,rfl,hL,⟨aL,nL,cL,rfl⟩,b2⟩;have b12:=bT (bA (KL w1.heap.size w1) _) b2;have cX:=ae ((b2.block _ (by simp)).trans (mX w1 (.cells #[.slice aR Lu.length cR,.slice aD Lv.length cD] 62)));have cU:=fun k=>(b12.cell (p:=⟨w.heap.size,k,none⟩) hlU).trans (cU k);have hlX:w1.heap.size<w2.heap.size:=by have:=b2.size;simp at this;omega
  have hlU2:w.heap.size<w2.heap.size:=by omega
  have HB12:=aa b12;clear b2 b12 HST;cases hst:storeOk Lv ys
  ·have HF:=aa (show q=([],3)from by rw[HQ2.o,K9 hst])
   clear HQ2 hL hst;go_wp2_with fail;exact bodyPost_ret (v:=.tuple #[.slice none 0 0,.int .i64 3]) (by simp[results,results14,go_sem]) rfl (RET.o _ 3 HB12.o HF.o)
  ·have HL:=aa (hL hst)
   have HST2:=aa hst;rw[hst]at HQ2;clear hL hst;go_wp2_with fail;refine(HXR.o _ HB12.o).mono ?_;rintro _ w3 ⟨rfl,b3⟩;have HB13:=aa (bT HB12.o b3);have cX:=fun k=>(b3.cell (p:=⟨w1.heap.size,k,none⟩) hlX).trans (cX k);have cU:=fun k=>(b3.cell (p:=⟨w.heap.size,k,none⟩) hlU2).trans (cU k);have HB3:=aa b3;clear b3 HXR;rw[K8 (by simp)]at HQ2;by_cases hneg:ah (Lu.map aj.name) LK<0
   ·have HF:=aa (show q=([],4)from by rw[HQ2.o,K9 hneg])
    clear HQ2;generalize ah (Lu.map aj.name) LK=ri at*;go_wp2_with fail;exact bodyPost_ret (v:=.tuple #[.slice none 0 0,.int .i64 4]) (by simp[results,results14,go_sem]) rfl (RET.o _ 4 HB13.o HF.o)
   ·have HF:=aa (show q=(nG Lu Lv Lw LK vid ys,0)from by rw[HQ2.o,K8 hneg])
    have hge:decide (ah (Lu.map aj.name) LK<0)=false:=KT hneg;have hst:=HST2.o;unfold storeOk at hst;simp only[Li,Lc]at hst;have hy200:=hst.1;have HGA:=aa (xC Lv ys [] hst.2.1);have hLr:=HL.o.below HB3.o;obtain⟨a3,c3,e3,_⟩:=id hLr;cases e3;rw[Ll]at hLr⊢;have HSE:=aa (show zj w3 (.slice aR Lu.length cR) aD cD Lu Lv Lw from⟨HR.o.below HB13.o,HSO.o.rl,HSO.o.ri,HD.o.below HB13.o,HSO.o.dl,fun d hd=>⟨(HSO.o.df d hd).1,(HSO.o.df d hd).2.2.2.1,(HSO.o.df d hd).2.2.2.2⟩,HSO.o.g⟩);have hsee:=J8 (.slice aR Lu.length cR) aD cD Lu Lv Lw LK vid aY cY ys aL cL w3 HSE.o (HY.o.below (bT HB1.o HB13.o)) hLr hy200 HGA.o (fun y hy=>(HCL.o y hy).1);clear HQ2 hst hLr HL;generalize ah (Lu.map aj.name) LK=ri at*;go_wp2_with fail;refine hsee.mono ?_;rintro _ w4 ⟨vO,xs,rfl,hO,hxs,b4⟩;have HO:=aa hO;have HXS:=aa hxs;obtain⟨aO,cO,hvO⟩:=bc hO.own;subst hvO;clear hO hxs;go_wp2_with fail;exact bodyPost_ret (v:=.tuple #[.slice aO xs.length cO,.int .i64 0]) (by simp[results,results14,go_sem]) rfl ⟨_,xs,by rw[HF.o];rfl,HO.o.low (bT HB1.o HB13.o).size,by rw[HF.o];exact HXS.o,bT (bT HB1.o HB13.o) b4⟩
end Go.Proofs.YtgbloieahmkcjaaGreat
