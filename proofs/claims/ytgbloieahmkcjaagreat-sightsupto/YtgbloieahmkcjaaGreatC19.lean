import Derived.Test.YtgbloieahmkcjaaGreatC18
import Derived.Deep.OwnRows
namespace Go.Proofs.YtgbloieahmkcjaaGreat
set_option maxHeartbeats 20000000
set_option maxRecDepth 100000
open Go.RowKit Tryz
open Go.Maps Tryz
abbrev OS:=List Nat×List Bool
def eK(nms:List Ls)(st:OS)(x:Ls):OS:=if st.2.getD (ah nms x).toNat false=true then st else(st.1++[(ah nms x).toNat],st.2.set (ah nms x).toNat true)
def kx(Lu:List aj)(j:Nat):List Ls:=match Lu[j]? with
 |some r=>r.LA
 |none=>[]
def qg(Lu:List aj)(st:OS):OS:=(kx Lu (st.1.getLastD 0)).foldl (eK (Lu.map aj.name)) (st.1.dropLast,st.2)
def dV(Lu:List aj):Nat->OS->List Bool
 |0,st=>st.2
 |f+1,st=>if st.1.length=0 then st.2 else dV Lu f (qg Lu st)
def pr(l:List Bool):Nat:=l.countP (fun x=>!x)
def fe(st:OS):Nat:=2*pr st.2+st.1.length
def lL(l:List Bool):List Value:=l.map Value.bool
def ld(l:List Nat):List Value:=l.map fun j=>Value.int .i64 (j:Nat)
theorem Hy(l:List Bool)(j:Nat)(h:l[j]?=some false):pr (l.set j true)+1=pr l:=by
 unfold pr
 induction l generalizing j with
 |nil=>simp at h
 |cons x l ih=>
  cases j with
  |zero=>simp at h;subst h;simp
  |succ j=>
   simp only[List.set_cons_succ,List.countP_cons];have:=ih j (by simpa using h);omega
theorem D9(l:List Nat):l.dropLast=l.take (l.length-1):=by rw[List.dropLast_eq_take]
theorem Jk{w:World}{base n cap m g:Nat}{e:TypeId}{xs:List Value}(h:w.ownsRow base e 1 (.slice (some ⟨g,0,none⟩) n cap) n xs)(hm:m<=n):w.ownsRow base e 1 (.slice (some ⟨g,0,none⟩) m cap) m (xs.take m):=by
 have hl:=h.1;rcases h.2 with⟨e0,_⟩|⟨g',LM,cur,hv,hg,hh,h1,h2,h3,h4⟩
 ·cases e0
 ·cases hv
  refine⟨by rw[List.length_take];omega,Or.inr ⟨_,_,cur,rfl,hg,hh,by omega,h2,h3,?_⟩⟩;rw[<-h4,List.take_take,Nat.mul_one,Nat.min_eq_left (by omega)]
theorem ie.below{w w':World}{M n:Nat}{D:DataW Unit}(h:ie w M n D)(hb:Lt w w'):ie w' M n D:=
 World.ownsMap.kept h ⟨hb.os,hb.tape,hb.output,hb.size,fun i hi _=>hb.block i hi⟩ (by simp:some M≠none)
theorem o6(l:List Ls)(x:Ls)(j:Nat)(hn:l.Nodup)(hj:l[j]?=some x):ah l x=j:=by
 unfold ah;rw[lj l x 0 j (fun y hy e=>by
  subst e;obtain⟨i,hi⟩:=List.mem_iff_getElem?.1 hy;have h1:i<j:=by
   have:=(KO.1 hi).1;simp at this;omega
  rw[List.getElem?_take_of_lt h1]at hi;have:=(List.getElem?_inj (KO.1 hi).1 hn).1 (hi.trans hj.symm);omega) hj]
 simp
theorem info3:(prog.info? 3).map (fun i=>(i.zero,i.size,i.bytes))=some (some (.int .i64 0),1,8):=by kernel_rfl
theorem info4:(prog.info? 4).map (fun i=>(i.zero,i.size,i.bytes))=some (some (.bool false),1,1):=by kernel_rfl
theorem EQ(n:Nat):madeCells #[Value.bool false] n=(lL (List.replicate n false)).toArray:=by
 apply Array.toList_inj.1;rw[toList_madeCells_one];simp[lL]
theorem xu(nms:List Ls)(st:OS)(x:Ls)(h:(ah nms x).toNat<st.2.length):fe (eK nms st x)<=fe st/\(eK nms st x).2.length=st.2.length:=by
 unfold eK;split
 ·exact⟨KK _,rfl⟩
 ·rename_i hf
  have h1:st.2[(ah nms x).toNat]?=some false:=by
   rw[List.getD_eq_getElem?_getD,KM h]at hf;rw[KM h];simpa using hf
  have:=Hy st.2 _ h1;refine⟨?_,by simp⟩;unfold fe;simp only[Lb,Lm,List.length_nil];omega
theorem Bg(w:World)(S:Nat)(vR vO vI vU vN:Value)(LR:List (aj×Value))(LO:List (aH×Value×Value×Value))(LI:List (bC×Value))(LU:List (bB×Value))(names:List Ls)(Ms M nM:Nat)(D:DataW Unit)(h:SV w S vR vO vI vU vN LR LO LI LU names)(hM:ie w M nM D)(hpm:PM (LR.map rN) D)(hnd:(LR.map rN).Nodup)(Nd:∀x∈LR,∀y∈x.1.LA,y∈LR.map rN/\y.size<=4000)(hp:Ms<LR.length):
 Calls prog 81 #[.pointer (some ⟨S,0,none⟩),.int .i64 Ms,.map (some M)] w fun e w'=>e=.returned (.slice (some ⟨w.heap.size,0,none⟩) LR.length LR.length)/\w'.heap[w.heap.size]?=some (.cells (lL (dV (LR.map Prod.fst) (2*LR.length+1) ([Ms],List.replicate LR.length false))).toArray 4 (0,0))/\Lt w w':=by
 obtain⟨i0,hi,hz0,hz1,hz2⟩:=info_parts info3;have hlr:=h.lr;have hmk:=run_make_row' (P:=prog) 156 4 (.bool false) 1 underlying156 info4 rfl .i64 .i64 LR.length (by omega) (by omega);have H0:=aa h;have HM:=aa hM;have HPM:=aa hpm;have HND:=aa hnd;have NL:=aa Nd;have hSl:=ag h.sc;obtain⟨aR,cR,hv⟩:=bc h.r.own;subst hv;have c0:w.cell? ⟨S,0,none⟩=some (.slice aR LR.length cR):=ae h.sc 0;generalize hFF:dV (LR.map Prod.fst) (2*LR.length+1) ([Ms],List.replicate LR.length false)=FF at*;have HFF:=aa hFF;clear h hM hpm hnd Nd hFF;go_enter func81,ntmps81;go_wp2_with fail;have hbo:Lt w ((w.alloc (.cells (madeCells #[.bool false] LR.length) 4)).alloc (.cells #[.int .i64 Ms] 3)):=di _ _ _;have hr0:=ig w (.cells (madeCells #[.bool false] LR.length) 4 (0,0)) (.cells #[.int .i64 Ms] 3 (0,0));have ho0:((w.alloc (.cells (madeCells #[.bool false] LR.length) 4)).alloc (.cells #[.int .i64 Ms] 3)).ownsRow (w.heap.size+1) 3 1 (.slice (some ⟨w.heap.size+1,0,none⟩) 1 1) [Ms].length (ld [Ms]):=⟨rfl,Or.inr ⟨_,1,_,rfl,KK _,eo _ _ _,KK _,by decide,rfl,rfl⟩⟩;rw[EQ]at hbo hr0 ho0⊢;generalize ((w.alloc (.cells (lL (List.replicate LR.length false)).toArray 4)).alloc (.cells #[.int .i64 Ms] 3))=wl at*;go_loopg [8,9,10,12,13,42,43,44] (fe ([Ms],List.replicate LR.length false)) (fun kk v8 v9 v10 v12 v13 v42 v43 v44 wr=>∃(op:List Nat) (bs:List Bool) (f:Nat),fe (op,bs)<=kk/\fe (op,bs)<=f/\fe (op,bs)<=2000/\wr.ownsRow (w.heap.size+1) 3 1 v8 op.length (ld op)/\wr.heap[w.heap.size]?=some (.cells (lL bs).toArray 4 (0,0))/\bs.length=LR.length/\(∀j∈op,j<LR.length)/\Lt w wr/\FF=dV (LR.map Prod.fst) f (op,bs))
 case atStart=>
  have hmu:fe ([Ms],List.replicate LR.length false)=2*LR.length+1:=by unfold fe pr;simp[List.countP_replicate]
  exact⟨[Ms],List.replicate LR.length false,2*LR.length+1,KK _,by omega,by omega,ho0,hr0,by simp,by simpa using hp,hbo,HFF.o.symm⟩
 case round=>
  clear hbo hr0 ho0;obtain⟨wo,rfl⟩:∃wo:World,wo=wr:=⟨_,rfl⟩;obtain⟨op,bs,f,hmk1,hmf,hm2,LJ,hbl,hbs,hop,hb,hrel⟩:=hrel;have HR:=aa hrel;have HOP:=aa hop;have HBL:=aa hbl;have hbz:=ag hbl;clear hrel hop hbl;obtain⟨aO,cO,hvO⟩:=bc LJ;subst hvO;have hopl:op.length<=2000:=by unfold fe at hm2;simp only[]at hm2;omega
  by_cases hne:op.length=0
  ·have HE:=aa (show FF=bs from by
    rw[HR.o];cases f with
    |zero=>rfl
    |succ f=>rw[dV,K9 hne])
   have t0:¬(0:Int)<(op.length:Int):=by omega
   clear HR;go_wp2_with fail;go_ret;exact⟨rfl,by rw[HE.o];exact HBL.o,hb⟩
  ·have t0:(0:Int)<(op.length:Int):=by omega
   obtain⟨g,haO⟩:∃g,aO=some ⟨g,0,none⟩:=by
    rcases LJ.2 with⟨e,e0⟩|⟨g,cap,cur,hv,_⟩
    ·omega
    ·cases hv;exact⟨g,rfl⟩
   subst haO;have NP:op.length-1<op.length:=by omega
   have hxl:=KM NP;have hcl:wo.cell? ⟨g,op.length-1,none⟩=some (.int .i64 (op[op.length-1]:Nat)):=by
    have:=LJ.cellAt (op.length-1) (by omega);simpa [ld,hxl]using this
   have Og:op[op.length-1]<LR.length:=HOP.o _ (List.getElem_mem _);have HLD:=aa (show op.getLastD 0=op[op.length-1]from by
    rw[List.getLastD_eq_getLast?,List.getLast?_eq_getElem?,hxl];rfl)
   have hsv:=H0.o.below hb;have cS:wo.cell? ⟨S,0,none⟩=some (.slice aR LR.length cR):=ae hsv.sc 0;have Nv:=Jk LJ (m:=op.length-1) (by omega);have hcapO:op.length<=cO:=by
    rcases LJ.2 with⟨e,e0⟩|⟨g',LM,cur,hv,_,_,hn1,_⟩
    ·omega
    ·cases hv;exact hn1
   clear hxl;generalize hgi:op[op.length-1]=ix at*;clear hgi;have hxr:=KM Og;obtain⟨gR,MI,hvR,hcc⟩:=hsv.r.cell (fun _=>rfl) ix _ hxr;cases hvR;have hokr:=hsv.r.ok _ (KN hxr);have d0:wo.cell? ⟨gR,ix*2,none⟩=some (.string LR[ix].1.name):=by simpa using hcc 0 _ rfl
   have d1:wo.cell? ⟨gR,ix*2+1,none⟩=some LR[ix].2:=hcc 1 _ rfl;have hincr:=NL.o _ (KN hxr);have hokw:=(H0.o.r.ok _ (KN hxr)).1;have HIJ:=aa (show kx (LR.map Prod.fst) ix=LR[ix].1.LA from by unfold kx;rw[La,hxr];rfl);clear hcc hxr;generalize LR[ix]=rr at*;obtain⟨⟨rn,Mz⟩,rv⟩:=rr;obtain⟨hri,hrl⟩:=hokr;simp only[]at*;obtain⟨aI,cI,rfl⟩:=bc hri;have HGL:=aa (show(op.dropLast).length+1=op.length from by rw[List.length_dropLast];omega);have HDT:=aa (show ld op.dropLast=(ld op).take (op.length-1)from by unfold ld;rw[D9,List.map_take]);have HNE:=aa hne;have HINCL:=aa (show∀f',dV (LR.map Prod.fst) (f'+1) (op,bs)=dV (LR.map Prod.fst) f' (qg (LR.map Prod.fst) (op,bs))from fun f'=>by rw[dV,K8 hne]);have hm1:fe (op.dropLast,bs)+1=fe (op,bs):=by unfold fe;simp only[];have:=HGL.o;omega
   have HRR:=aa (show qg (LR.map Prod.fst) (op,bs)=Mz.foldl (eK (LR.map rN)) (op.dropLast,bs)from by
    unfold qg;simp only[];rw[HLD.o,HIJ.o,List.map_map];rfl)
   generalize hgl:op.length=ol at*;clear hne NP hgl;obtain⟨m,rfl⟩:∃m,ol=m+1:=⟨ol-1,by have:=HNE.o;omega⟩;simp only[Nat.add_sub_cancel]at*;have hdl:op.dropLast.length=m:=by have:=HGL.o;omega
   have hb0:=hb.size;have hix0:(0:Int)<=(ix:Int):=by omega
   have hix1:(ix:Int)<(LR.length:Int):=by omega
   have zg:g<wo.heap.size:=KQ wo _ hcl;have zR:gR<wo.heap.size:=KQ wo _ d0;have zS:S<wo.heap.size:=KQ wo _ cS;go_upto_region 5 with fail;go_cut [10] (fun v10 wc=>v10=.pointer (some ⟨wo.heap.size,0,none⟩)/\wc.heap[wo.heap.size]?=some (.cells #[.string rn,.slice aI Mz.length cI] 154 (0,0))/\Lt wo wc)
   case first=>
    go_region;all_goals(try go_wp2_with fail)
    all_goals(
     go_meet;exact⟨rfl,KS _ _,((KL _ _).alloc (KK _) _).drew⟩)
   case rest=>
    obtain⟨rfl,hcn,hbc⟩:=hcut;have hstr:=cH.of_own hokw;have HSTR:=aa hstr;have hbwc:Lt w wc:=hb.trans (hbc.mono hb.size);have Mn:=bZ Nv (hbc.mono (KK _));have hblc:=(hbc.block _ hbz).trans HBL.o;have cn1:wc.cell? ⟨wo.heap.size,1,none⟩=some (.slice aI Mz.length cI):=ae hcn 1;have LL:wc.ownsRow (w.heap.size+1) 3 1 (.slice (some ⟨g,0,none⟩) m cO) op.dropLast.length (ld op.dropLast):=by rw[HDT.o,hdl];exact Mn
    have HO2:=aa LL;have HBLC:=aa hblc;have HHOP:=aa (show∀j∈op.dropLast,j<LR.length from fun j hj=>HOP.o j ((List.dropLast_sublist op).subset hj));have HHDL:=aa hdl;have hrl':Mz.length<=803:=hrl;clear LJ Mn hblc Nv hcl d0 d1 cS hcn hri hokw hstr hsv LL hdl;go_wp2_with fail;go_loopg [8,12,13,44] Mz.length (fun kk v8 v12 v13 v44 wr=>∃(i:Nat) (op':List Nat) (bs':List Bool),v44=.int .i64 i/\i<=Mz.length/\Mz.length-i<=kk/\wr.ownsRow (w.heap.size+1) 3 1 v8 op'.length (ld op')/\wr.heap[w.heap.size]?=some (.cells (lL bs').toArray 4 (0,0))/\bs'.length=LR.length/\(∀j∈op',j<LR.length)/\Lt w wr/\fe (op',bs')<=fe (op.dropLast,bs)/\(Mz.take i).foldl (eK (LR.map rN)) (op.dropLast,bs)=(op',bs'))
    case atStart=>exact⟨0,op.dropLast,bs,rfl,KU _,by omega,by rw[HHDL.o];have:=HO2.o;rw[HHDL.o]at this;exact this,HBLC.o,hbs,HHOP.o,hbwc,KK _,by simp⟩
    case round=>
     clear HO2 HBLC hbwc cn1 hbc;obtain⟨i,op',bs',rfl,hii,hik,LJ,hbl,hbs',hop',hbw,hmu,hfold⟩:=hrel;have HOP':=aa hop';have HFOLD:=aa hfold;have HBL':=aa hbl;clear hop' hfold;have hbz':=ag hbl;obtain⟨aO',cO',hvO'⟩:=bc LJ;subst hvO';have hop2:op'.length<=2000:=by unfold fe at hmu hm2 hm1;simp only[]at hmu hm2 hm1;omega
     by_cases hlti:i<Mz.length
     ·have hxi:=KM hlti
      obtain⟨a',LM,e1,_,h3⟩:=HSTR.o.below hbw;cases e1;obtain⟨gs,off,ha,h4⟩:∃g off,aI=some ⟨g,off,none⟩/\∀(j:Nat) (x:Ls),Mz[j]?=some x->wr.cell? ⟨g,off+j,none⟩=some (.string x):=by
       rcases h3 with e|e
       ·rw[e]at hlti;simp at hlti
       ·exact e
      subst ha;have LQ:=h4 i _ hxi;have hy:=hincr _ (KN hxi);have HXI:=aa hxi;clear hxi h4 h3;generalize Mz[i]=y at*;have MD:=qe y hy.2;obtain⟨c,Oc,hat,_⟩:=(HM.o.below hbw).lookup_int jn underlying72 underlying3 (me _) MD;obtain⟨j,hj,hjv⟩:=HPM.o.val y hy.1;have hcj:c=j:=by
       rw[hjv]at hat;simp only[DataW.lit.injEq,Lit.int.injEq,true_and]at hat;exact hat.symm
      subst hcj;have Ow:=o6 _ y j HND.o hj;have hjl:j<LR.length:=by have:=(KO.1 hj).1;simpa using this
      have hjb:j<bs'.length:=by omega
      have hxb:=KM hjb;have hcb:wr.cell? ⟨w.heap.size,j,none⟩=some (.bool bs'[j]):=by
       rw[ae hbl j];simp[lL,hxb]
      have hfb:=ar hbl j;have HST:=aa (show(Mz.take (i+1)).foldl (eK (LR.map rN)) (op.dropLast,bs)=eK (LR.map rN) (op',bs') y from by
       rw[Ld,HXI.o,List.foldl_append,HFOLD.o];rfl)
      have HMS:=aa (xu (LR.map rN) (op',bs') y (by rw[Ow];simpa using hjb));have HIS:=aa (show eK (LR.map rN) (op',bs') y=if bs'[j]=true then(op',bs')else(op'++[j],bs'.set j true)from by
       unfold eK;rw[Ow];simp only[Lk,List.getD_eq_getElem?_getD,hxb,Option.getD_some])
      have hj0:(0:Int)<=(j:Int):=by omega
      have hj1:(j:Int)<(LR.length:Int):=by omega
      clear hat hjv hj hy MD Ow hxb;cases hq:bs'[j]
      ·rw[hq]at hcb HIS
       simp only[Lj,if_false]at HIS;have LP:∀q,(Value.slice aO' op'.length cO').ownBlock=some q->w.heap.size+1<=q:=fun q hq=>(LJ.lt q hq).1;have L8:(wr.setCell ⟨w.heap.size,j,none⟩ (.bool true)).ownsRow (w.heap.size+1) 3 1 (.slice aO' op'.length cO') op'.length (ld op'):=dO LJ (au.setT hbl (by decide) j (.bool true));have hbl4:=aJ hbl j (.bool true);clear hq;go_wp2_with (at_builtin;refine wpList_append_own _ rfl _ _ 211 rfl (w.heap.size+1) 3 i0 _ 1 8 underlying211 hi hz0 hz1 hz2 rfl (by decide) _ _ _ rfl (L8.alloc _) ⟨wr.heap.size,0,none⟩ 1 1 [.int .i64 j] rfl rfl (de (wr.setCell ⟨w.heap.size,j,none⟩ (.bool true)) wr.heap.size [.int .i64 j] 3 (by simp[World.setCell])) (fun u hu=>by simp at hu;subst hu;rfl) (by unfold maxLen;omega) (by omega) (by simp[World.setCell];omega) ?_;intro v' w5 LV hgrow _);have hbl5:w5.heap[w.heap.size]?=some (.cells (lL (bs'.set j true)).toArray 4 (0,0)):=by
        rw[hgrow.block w.heap.size (by simp[World.setCell];omega) (fun e=>by have:=LP _ e.symm;omega),bp _ _ _ (by simp[World.setCell];omega),hbl4];congr 2;apply Array.toList_inj.1;simp[lL,List.map_set]
       have hb5:Lt w w5:=((hbw.setCell (KK _) _).alloc (by simp[World.setCell];omega) _).grown hgrow (by simp[World.setCell];omega) (fun q hq=>by have:=LP q hq;omega);have Mt:w5.ownsRow (w.heap.size+1) 3 1 v' (op'++[j]).length (ld (op'++[j])):=by
        rw[Lb,show ld (op'++[j])=ld op'++[.int .i64 j]from by simp[ld]];exact LV
       have HX:=aa (And.intro Mt (And.intro hbl5 hb5));clear LV hgrow hbl5 hb5 Mt L8 hbl4;go_wp2_with fail;go_roundg (Mz.length-(i+1))
       case measure=>omega
       case rel=>exact⟨i+1,op'++[j],bs'.set j true,by go_num,by omega,KK _,HX.o.1,HX.o.2.1,by simpa using hbs',by
        intro q hq;rcases List.mem_append.1 hq with hq|hq
        ·exact HOP'.o q hq
        ·simp at hq;subst hq;exact hjl,HX.o.2.2,by have h1:=HMS.o.1;rw[HIS.o]at h1;omega,by rw[HST.o,HIS.o]⟩
      ·rw[hq]at hcb HIS
       simp only[if_true]at HIS;clear hq;go_wp2_with fail;go_roundg (Mz.length-(i+1))
       case measure=>omega
       case rel=>exact⟨i+1,op',bs',by go_num,by omega,KK _,LJ,HBL'.o,hbs',HOP'.o,hbw,hmu,by rw[HST.o,HIS.o]⟩
     ·have HFE:=aa (show Mz.foldl (eK (LR.map rN)) (op.dropLast,bs)=(op',bs')from by
       have:=HFOLD.o;rw[KW (by omega)]at this;exact this)
      obtain⟨f',rfl⟩:∃f',f=f'+1:=⟨f-1,by omega⟩;have HRE:=aa (show FF=dV (LR.map Prod.fst) f' (op',bs')from by
       rw[HR.o,HINCL.o,HRR.o,HFE.o])
      go_wp2_with fail;go_roundg (fe (op',bs'))
      case measure=>omega
      case rel=>exact⟨op',bs',f',KK _,by omega,by omega,LJ,HBL'.o,hbs',HOP'.o,hbw,HRE.o⟩
theorem SV.shapedR{w:World}{S:Nat}{vR vO vI vU vN:Value}{LR:List (aj×Value)}{LO:List (aH×Value×Value×Value)}{LI:List (bC×Value)}{LU:List (bB×Value)}{names:List Ls}(h:SV w S vR vO vI vU vN LR LO LI LU names):lM sV w vR 2 (LR.map rN):=
 h.r.shaped sV rN (fun _=>rfl) (fun _=>rfl) (fun x hx k u hk hu=>by
  obtain⟨a,c,hv⟩:=bc (h.r.ok x hx).1;have:mv x=[.string x.1.name,x.2]:=rfl;rw[this]at hu
  match k,hk,hu with
  |1,_,hu=>simp at hu;exact⟨a,_,c,by rw[<-hu];exact hv⟩
  |k+2,_,hu=>simp at hu)
theorem Cw(nms:List Ls):∀(l:List Ls) (st:OS),(l.foldl (eK nms) st).2.length=st.2.length
 |[],_=>rfl
 |x::l,st=>by
  rw[List.foldl_cons,Cw nms l];unfold eK;split<;>simp
theorem zT(Lu:List aj)(n:Nat)(f:Nat)(_:0=0):∀(_:Nat) (st:OS),st.2.length=n->(dV Lu f st).length=n:=by
 intro _
 induction f with
 |zero=>intro st h;exact h
 |succ f ih=>
  intro st h;rw[dV];split
  ·exact h
  ·refine ih _ ?_
   unfold qg;rw[Cw];exact h
theorem Gr(w:World)(S:Nat)(vR vO vI vU vN:Value)(LR:List (aj×Value))(LO:List (aH×Value×Value×Value))(LI:List (bC×Value))(LU:List (bB×Value))(names:List Ls)(h:SV w S vR vO vI vU vN LR LO LI LU names)(hsz:∀x∈LR,x.1.name.size<=4000/\∀y∈x.1.LA,y.size<=4000):
 Calls prog 56 #[.pointer (some ⟨S,0,none⟩)] w fun e w'=>e=.returned (.bool (dZ (LR.map rN)&&(LR.all (fun(x:aj×Value)=>x.1.LA.all fun y=>ba y (LR.map rN))&&(List.range LR.length).all (fun(i:Nat)=>!(dV (LR.map Prod.fst) (2*LR.length+1) ([i],List.replicate LR.length false)).getD i false))))/\Lt w w':=by
 have H0:=aa h;have HSZ:=aa hsz;have hlr:=h.lr;have hc:=yJ w vR (LR.map rN) h.shapedR (by simp;omega) (by
  intro x hx;obtain⟨r,hr,rfl⟩:=List.mem_map.1 hx;exact(hsz r hr).1)
 obtain⟨aR,cR,hv⟩:=bc h.r.own;subst hv;have c0:w.cell? ⟨S,0,none⟩=some (.slice aR LR.length cR):=ae h.sc 0;generalize hFF:(dZ (LR.map rN)&&(LR.all (fun(x:aj×Value)=>x.1.LA.all fun y=>ba y (LR.map rN))&&(List.range LR.length).all (fun(i:Nat)=>!(dV (LR.map Prod.fst) (2*LR.length+1) ([i],List.replicate LR.length false)).getD i false)))=FF at*;have HFF:=aa hFF;clear h hsz hFF;go_enter func56,ntmps56;go_wp2_with fail;refine hc.mono ?_;clear hc;rintro e w1 ⟨M,D,rfl,hM,LJ,hpm,hb1⟩;have HPM:=aa hpm;have Mq:=aa LJ;have c1:=ao hb1 c0;have hlenN:∀(n:Nat) (ty:TypeId),(Builtin.len_ #[72] ty #[.map (some M)]).run prog (w1.drewN n)=.ok (.int .i64 (Maps.size D)) (w1.drewN n):=fun n ty=>World.ownsMap.len (ie.below LJ (below_drewN (KL _ _) n)) underlying72 ty;have hnn:dZ (LR.map rN)=decide (Maps.size D=LR.length):=by
  rw[Bool.eq_iff_iff,kR,<-hpm.eq];simp
 have HNN:=aa hnn;clear hnn hpm LJ;generalize hsd:Maps.size D=sd at*;clear hsd;by_cases hq:sd=LR.length
 ·have t1:((sd:Int)==(LR.length:Int))=true:=by simp;omega
  have HND:=aa (show(LR.map rN).Nodup from by rw[<-kR,HNN.o];simp[hq]);have HFF2:=aa (show FF=(LR.all (fun(x:aj×Value)=>x.1.LA.all fun y=>ba y (LR.map rN))&&(List.range LR.length).all (fun(i:Nat)=>!(dV (LR.map Prod.fst) (2*LR.length+1) ([i],List.replicate LR.length false)).getD i false))from by
   rw[<-HFF.o,HNN.o];simp[hq])
  clear HFF HNN;go_wp2_with fail;go_quiet (fail);have c1q:=ao (below_drewN (KL _ _) nq) c1;have NZ:Lt w (w1.drewN nq):=below_drewN hb1 nq;have HOWNq:=aa (ie.below Mq.o (below_drewN (KL _ _) nq));clear Mq hlenN c1;generalize w1.drewN nq=w2 at*;clear hb1;go_wp2_with fail;go_loopg [5,7,8,9,29,34,35,36] LR.length (fun m v5 v7 v8 v9 v29 v34 v35 v36 wr=>∃k:Nat,v29=.int .i64 k/\k<=LR.length/\LR.length-k<=m/\Lt w2 wr/\((LR.take k).all (fun(x:aj×Value)=>x.1.LA.all fun y=>ba y (LR.map rN)))=true)
  case atStart=>exact⟨0,rfl,KU _,by omega,KL _ _,by simp⟩
  case round=>
   obtain⟨wo,rfl⟩:∃wo:World,wo=wr:=⟨_,rfl⟩;obtain⟨k,rfl,hk,hm,hb,LZ⟩:=hrel;have Mb:=aa LZ;clear LZ;have hbw:Lt w wo:=NZ.trans (hb.mono NZ.size);by_cases hlt:k<LR.length
   ·have hx:=KM hlt
    have hsv:=H0.o.below hbw;obtain⟨gR,MI,hvR,hcc⟩:=hsv.r.cell (fun _=>rfl) k _ hx;cases hvR;have hokw:=(hsv.r.ok _ (KN hx)).1;have hokl:=(hsv.r.ok _ (KN hx)).2;have d0:wo.cell? ⟨gR,k*2,none⟩=some (.string LR[k].1.name):=by simpa using hcc 0 _ rfl
    have d1:wo.cell? ⟨gR,k*2+1,none⟩=some LR[k].2:=hcc 1 _ rfl;have hsz:=(HSZ.o _ (KN hx)).2;have HX:=aa hx;clear hx hcc hsv;generalize LR[k]=rr at*;obtain⟨⟨rn,Mz⟩,rv⟩:=rr;simp only[]at*;obtain⟨aI,cI,rfl⟩:=bc hokw;have HSTR:=aa (cH.of_own hokw);clear hokw;have HXJ:=aa (show((LR.take (k+1)).all (fun(x:aj×Value)=>x.1.LA.all fun y=>ba y (LR.map rN)))=(Mz.all fun y=>ba y (LR.map rN))from by
     rw[Ld,HX.o,List.all_append,Mb.o];simp)
    have Md:=aa (show(Mz.all fun y=>ba y (LR.map rN))=false->FF=false from fun hF=>by
     rw[HFF2.o,Bool.and_eq_false_iff];left;rw[Bool.eq_false_iff];intro hT;rw[Lh]at hT;have:=hT _ (KN HX.o);simp only[]at this;rw[hF]at this;cases this)
    have hbn:Lt wo (wo.alloc (.cells #[.string rn,.slice aI Mz.length cI] 154)):=(KL _ _).alloc (KK _) _;go_wp2_with fail;go_loopg [7,8,9,36] Mz.length (fun m v7 v8 v9 v36 wr=>∃i:Nat,v36=.int .i64 i/\i<=Mz.length/\Mz.length-i<=m/\Lt wo wr/\((Mz.take i).all fun y=>ba y (LR.map rN))=true)
    case atStart=>exact⟨0,rfl,KU _,by omega,hbn,by simp⟩
    case round=>
     clear hbn d0 d1;obtain⟨i,rfl,hi,hmi,hbi,MY⟩:=hrel;have M0:=aa MY;clear MY;have hb2r:Lt w2 wr:=hb.trans (hbi.mono hb.size);by_cases hlti:i<Mz.length
     ·have hxi:=KM hlti
      obtain⟨a',LM,e1,_,h3⟩:=HSTR.o.below hbi;cases e1;obtain⟨gs,off,ha,h4⟩:∃g off,aI=some ⟨g,off,none⟩/\∀(j:Nat) (x:Ls),Mz[j]?=some x->wr.cell? ⟨g,off+j,none⟩=some (.string x):=by
       rcases h3 with e|e
       ·rw[e]at hlti;simp at hlti
       ·exact e
      subst ha;have LQ:=h4 i _ hxi;have hy:=hsz _ (KN hxi);have HXI:=aa hxi;clear hxi h4 h3;generalize Mz[i]=y at*;have MD:=qe y hy;have hownr:=ie.below HOWNq.o hb2r;have HXT:=aa (show((Mz.take (i+1)).all fun y=>ba y (LR.map rN))=ba y (LR.map rN)from by
       rw[Ld,HXI.o,List.all_append,M0.o];simp)
      have HFY:=aa (show ba y (LR.map rN)=false->FF=false from fun hF=>Md.o (by
       rw[Bool.eq_false_iff];intro hT;rw[Lh]at hT;have:=hT y (KN HXI.o);rw[hF]at this;cases this))
      have M7:=HPM.o.hasP y;cases hq2:ba y (LR.map rN)
      ·rw[hq2]at M7
       have HE:=aa (HFY.o hq2);clear hq2 HFY HXT;go_wp2_with (at_lookup;refine wpList_lookup_own_ok_int _ rfl _ _ 72 rfl 9 3 .i64 jn underlying72 underlying3 (me _) M _ D rfl hownr _ _ rfl MD ?_;intro c hat hwc;rw[M7]);go_ret;exact⟨am (by rw[HE.o]),NZ.trans (hb2r.mono NZ.size)⟩
      ·rw[hq2]at M7 HXT
       clear hq2 HFY;go_wp2_with (at_lookup;refine wpList_lookup_own_ok_int _ rfl _ _ 72 rfl 9 3 .i64 jn underlying72 underlying3 (me _) M _ D rfl hownr _ _ rfl MD ?_;intro c hat hwc;rw[M7]);go_roundg (Mz.length-(i+1))
       case measure=>omega
       case rel=>exact⟨i+1,by go_num,by omega,KK _,hbi,HXT.o⟩
     ·have HXE:=aa (show((LR.take (k+1)).all (fun(x:aj×Value)=>x.1.LA.all fun y=>ba y (LR.map rN)))=true from by
       rw[HXJ.o];have h1:=M0.o;rw[KW (by omega)]at h1;exact h1)
      go_wp2_with fail;go_roundg (LR.length-(k+1))
      case measure=>omega
      case rel=>exact⟨k+1,by go_num,by omega,KK _,hb2r,HXE.o⟩
   ·have NT:LR.all (fun(x:aj×Value)=>x.1.LA.all fun y=>ba y (LR.map rN))=true:=by
     have h1:=Mb.o;rw[KW (by omega)]at h1;exact h1
    have HKN:=aa (show∀x∈LR,∀y∈x.1.LA,y∈LR.map rN/\y.size<=4000 from fun x hx y hy=>by
     rw[Lh]at NT;have h1:=NT x hx;rw[Lh]at h1;exact⟨(ii _ _).1 (h1 y hy),(HSZ.o x hx).2 y hy⟩)
    have HFF3:=aa (show FF=(List.range LR.length).all (fun(i:Nat)=>!(dV (LR.map Prod.fst) (2*LR.length+1) ([i],List.replicate LR.length false)).getD i false)from by rw[HFF2.o,NT];rfl);clear NT HFF2;have cwo:=ao hb c1q;go_wp2_with fail;go_loopg [10,55] LR.length (fun m v10 v55 wr=>∃i:Nat,v55=.int .i64 i/\i<=LR.length/\LR.length-i<=m/\Lt w2 wr/\((List.range i).all (fun(i:Nat)=>!(dV (LR.map Prod.fst) (2*LR.length+1) ([i],List.replicate LR.length false)).getD i false))=true)
    case atStart=>exact⟨0,rfl,KU _,by omega,hb,by simp⟩
    case round=>
     clear cwo;obtain⟨i,rfl,hi,hmi,hbi,MY⟩:=hrel;have M0:=aa MY;clear MY;have hbwr:Lt w wr:=NZ.trans (hbi.mono NZ.size);by_cases hlti:i<LR.length
     ·have hsv:=H0.o.below hbwr
      have hcI:=Bg wr S _ _ _ _ _ LR LO LI LU names i M _ D hsv (ie.below HOWNq.o hbi) HPM.o HND.o HKN.o hlti;have HXT:=aa (show((List.range (i+1)).all (fun(i:Nat)=>!(dV (LR.map Prod.fst) (2*LR.length+1) ([i],List.replicate LR.length false)).getD i false))=(fun(i:Nat)=>!(dV (LR.map Prod.fst) (2*LR.length+1) ([i],List.replicate LR.length false)).getD i false) i from by
       rw[List.range_succ,List.all_append,M0.o];simp)
      have HFY:=aa (show(fun(i:Nat)=>!(dV (LR.map Prod.fst) (2*LR.length+1) ([i],List.replicate LR.length false)).getD i false) i=false->FF=false from fun hF=>by
       rw[HFF3.o,Bool.eq_false_iff];intro hT;rw[Lh]at hT;have:=hT i (List.mem_range.2 hlti);have h9:=hF.symm.trans this;cases h9)
      have Me:(dV (LR.map Prod.fst) (2*LR.length+1) ([i],List.replicate LR.length false)).length=LR.length:=zT _ _ _ rfl 0 _ (by simp);simp only[]at HXT HFY;generalize dV (LR.map Prod.fst) (2*LR.length+1) ([i],List.replicate LR.length false)=rb at*;clear hsv;go_wp2_with fail;refine hcI.mono ?_;clear hcI;rintro e w4 ⟨rfl,Oi,hb4⟩;have hib:i<rb.length:=by omega
      have hxb:=KM hib;have hcb:w4.cell? ⟨wr.heap.size,i,none⟩=some (.bool rb[i]):=by
       rw[ae Oi i];simp[lL,hxb]
      have HGD:=aa (show rb.getD i false=rb[i]from by rw[List.getD_eq_getElem?_getD,hxb];rfl);rw[HGD.o]at HXT HFY;have hbb:Lt w2 w4:=hbi.trans (hb4.mono hbi.size);clear Oi hb4 hxb;have hi0:(0:Int)<=(i:Int):=by omega
      have hi1:(i:Int)<(LR.length:Int):=by omega
      cases hq3:rb[i]
      ·rw[hq3]at hcb HXT
       clear hq3 HFY HGD;go_wp2_with fail;go_roundg (LR.length-(i+1))
       case measure=>omega
       case rel=>exact⟨i+1,by go_num,by omega,KK _,hbb,HXT.o⟩
      ·rw[hq3]at hcb HFY
       have HE:=aa (HFY.o rfl);clear hq3 HFY HGD HXT;go_wp2_with fail;go_ret;exact⟨am (by rw[HE.o]),NZ.trans (hbb.mono NZ.size)⟩
     ·go_wp2_with fail
      go_ret;exact⟨am (by
       rw[HFF3.o];have h1:=M0.o;rw[show i=LR.length by omega]at h1;exact h1.symm),hbwr⟩
 ·have t1:((sd:Int)==(LR.length:Int))=false:=by simp;omega
  have HE:=aa (show FF=false from by rw[<-HFF.o,HNN.o];simp[hq]);clear HFF HNN;go_wp2_with fail;go_quiet (fail);go_wp2_with fail;go_ret;exact⟨am (by rw[HE.o]),below_drewN hb1 _⟩
def Bm(LR:List (aj×Value))(LO:List (aH×Value×Value×Value))(LI:List (bC×Value))(LU:List (bB×Value))(names:List Ls):Prop:=
 (∀x∈LR,x.1.name.size<=4000/\∀y∈x.1.LA,y.size<=4000)/\(∀x∈LO,(∀f∈x.1.fields,f.name.size<=4000)/\∀y∈x.1.LE,y.size<=4000)/\(∀x∈LI,∀f∈x.1.fields,f.name.size<=4000)/\(∀x∈LU,∀y∈x.1.LB,y.size<=4000)/\∀x∈names,x.size<=4000
theorem Is(w:World)(S:Nat)(vR vO vI vU vN:Value)(LR:List (aj×Value))(LO:List (aH×Value×Value×Value))(LI:List (bC×Value))(LU:List (bB×Value))(names:List Ls)(h:SV w S vR vO vI vU vN LR LO LI LU names)(hz:Bm LR LO LI LU names):
 Calls prog 32 #[.pointer (some ⟨S,0,none⟩)] w fun e w'=>e=.returned (.bool ((dZ (LR.map rN)&&(LR.all (fun(x:aj×Value)=>x.1.LA.all fun y=>ba y (LR.map rN))&&(List.range LR.length).all (fun(i:Nat)=>!(dV (LR.map Prod.fst) (2*LR.length+1) ([i],List.replicate LR.length false)).getD i false)))&&(mB names&&((LO.all fun x=>jb (LR.map rN) (aZ (LO.map oN) (LI.map iN) (LU.map uN)) (LI.map Prod.fst) x.1)&&((LI.all fun x=>fu (LR.map rN) (aZ (LO.map oN) (LI.map iN) (LU.map uN)) x.1.fields)&&((LU.all fun x=>fw (aZ (LO.map oN) (LI.map iN) (LU.map uN)) 2 x.1.LB)&&kh (LO.map Prod.fst)))))))/\Lt w w':=by
 obtain⟨z1,z2,z3,z4,z5⟩:=hz;have h1:=Gr w S vR vO vI vU vN LR LO LI LU names h z1;have H2:=aa (fun w' hb=>GD w' S vR vO vI vU vN LR LO LI LU names (h.below hb) z5);have H3:=aa (fun w' hb=>Ke w' S vR vO vI vU vN LR LO LI LU names (h.below hb) z2);have H4:=aa (fun w' hb=>Hh w' S vR vO vI vU vN LR LO LI LU names (h.below hb) z3);have H5:=aa (fun w' hb=>Gi w' S vR vO vI vU vN LR LO LI LU names (h.below hb) z4);have H6:=aa (fun w' hb=>GY w' S vR vO vI vU vN LR LO LI LU names (h.below hb));generalize (dZ (LR.map rN)&&(LR.all (fun(x:aj×Value)=>x.1.LA.all fun y=>ba y (LR.map rN))&&(List.range LR.length).all (fun(i:Nat)=>!(dV (LR.map Prod.fst) (2*LR.length+1) ([i],List.replicate LR.length false)).getD i false)))=q1 at*;generalize mB names=q2 at*;generalize (LO.all fun x=>jb (LR.map rN) (aZ (LO.map oN) (LI.map iN) (LU.map uN)) (LI.map Prod.fst) x.1)=q3 at*;generalize (LI.all fun x=>fu (LR.map rN) (aZ (LO.map oN) (LI.map iN) (LU.map uN)) x.1.fields)=q4 at*;generalize (LU.all fun x=>fw (aZ (LO.map oN) (LI.map iN) (LU.map uN)) 2 x.1.LB)=q5 at*;generalize kh (LO.map Prod.fst)=q6 at*;clear h z1 z2 z3 z4 z5;cases q1
 ·skip
  go_enter func32,ntmps32;go_wp2_with fail;refine h1.mono ?_;clear h1;rintro e w1 ⟨rfl,hb1⟩;have MH:=hb1;go_wp2_with fail;go_ret;exact⟨am (by simp),MH⟩
 ·skip
  cases q2
  ·skip
   go_enter func32,ntmps32;go_wp2_with fail;refine h1.mono ?_;clear h1;rintro e w1 ⟨rfl,hb1⟩;have MH:=hb1;go_wp2_with fail;refine(H2.o w1 MH).mono ?_;rintro e w2 ⟨rfl,hb2⟩;have MV:=MH.trans (hb2.mono MH.size);go_wp2_with fail;go_ret;exact⟨am (by simp),MV⟩
  ·skip
   cases q3
   ·skip
    go_enter func32,ntmps32;go_wp2_with fail;refine h1.mono ?_;clear h1;rintro e w1 ⟨rfl,hb1⟩;have MH:=hb1;go_wp2_with fail;refine(H2.o w1 MH).mono ?_;rintro e w2 ⟨rfl,hb2⟩;have MV:=MH.trans (hb2.mono MH.size);go_wp2_with fail;refine(H3.o w2 MV).mono ?_;rintro e w3 ⟨rfl,hb3⟩;have Nh:=MV.trans (hb3.mono MV.size);go_wp2_with fail;go_ret;exact⟨am (by simp),Nh⟩
   ·skip
    cases q4
    ·skip
     go_enter func32,ntmps32;go_wp2_with fail;refine h1.mono ?_;clear h1;rintro e w1 ⟨rfl,hb1⟩;have MH:=hb1;go_wp2_with fail;refine(H2.o w1 MH).mono ?_;rintro e w2 ⟨rfl,hb2⟩;have MV:=MH.trans (hb2.mono MH.size);go_wp2_with fail;refine(H3.o w2 MV).mono ?_;rintro e w3 ⟨rfl,hb3⟩;have Nh:=MV.trans (hb3.mono MV.size);go_wp2_with fail;refine(H4.o w3 Nh).mono ?_;rintro e w4 ⟨rfl,hb4⟩;have NH:=Nh.trans (hb4.mono Nh.size);go_wp2_with fail;go_ret;exact⟨am (by simp),NH⟩
    ·skip
     cases q5
     ·skip
      go_enter func32,ntmps32;go_wp2_with fail;refine h1.mono ?_;clear h1;rintro e w1 ⟨rfl,hb1⟩;have MH:=hb1;go_wp2_with fail;refine(H2.o w1 MH).mono ?_;rintro e w2 ⟨rfl,hb2⟩;have MV:=MH.trans (hb2.mono MH.size);go_wp2_with fail;refine(H3.o w2 MV).mono ?_;rintro e w3 ⟨rfl,hb3⟩;have Nh:=MV.trans (hb3.mono MV.size);go_wp2_with fail;refine(H4.o w3 Nh).mono ?_;rintro e w4 ⟨rfl,hb4⟩;have NH:=Nh.trans (hb4.mono Nh.size);go_wp2_with fail;refine(H5.o w4 NH).mono ?_;rintro e w5 ⟨rfl,hb5⟩;have hbb5:=NH.trans (hb5.mono NH.size);go_wp2_with fail;go_ret;exact⟨am (by simp),hbb5⟩
     ·skip
      go_enter func32,ntmps32;go_wp2_with fail;refine h1.mono ?_;clear h1;rintro e w1 ⟨rfl,hb1⟩;have MH:=hb1;go_wp2_with fail;refine(H2.o w1 MH).mono ?_;rintro e w2 ⟨rfl,hb2⟩;have MV:=MH.trans (hb2.mono MH.size);go_wp2_with fail;refine(H3.o w2 MV).mono ?_;rintro e w3 ⟨rfl,hb3⟩;have Nh:=MV.trans (hb3.mono MV.size);go_wp2_with fail;refine(H4.o w3 Nh).mono ?_;rintro e w4 ⟨rfl,hb4⟩;have NH:=Nh.trans (hb4.mono Nh.size);go_wp2_with fail;refine(H5.o w4 NH).mono ?_;rintro e w5 ⟨rfl,hb5⟩;have hbb5:=NH.trans (hb5.mono NH.size);go_wp2_with fail;refine(H6.o w5 hbb5).mono ?_;rintro e w6 ⟨rfl,hb6⟩;have hbb6:=hbb5.trans (hb6.mono hbb5.size);go_wp2_with fail;go_ret;exact⟨am (by simp),hbb6⟩
def r9(Lu:List aj):Bool:=dZ (Lu.map aj.name)&&((Lu.all fun r=>r.LA.all fun y=>ba y (Lu.map aj.name))&&(List.range Lu.length).all fun i=>!(dV Lu (2*Lu.length+1) ([i],List.replicate Lu.length false)).getD i false)
def oa(c:b9):Ls->Nat:=aZ (c.Lx.map aH.name) (c.ifs.map bC.name) (c.uns.map bB.name)
def jz(c:b9):Bool:=r9 c.Lu&&(mB c.names&&((c.Lx.all (jb (c.Lu.map aj.name) (oa c) c.ifs))&&((c.ifs.all fun i=>fu (c.Lu.map aj.name) (oa c) i.fields)&&((c.uns.all fun u=>fw (oa c) 2 u.LB)&&kh c.Lx))))
def m6(c:b9):Prop:=(∀x∈c.Lu,x.name.size<=4000/\∀y∈x.LA,y.size<=4000)/\(∀x∈c.Lx,(∀f∈x.fields,f.name.size<=4000)/\∀y∈x.LE,y.size<=4000)/\(∀x∈c.ifs,∀f∈x.fields,f.name.size<=4000)/\(∀x∈c.uns,∀y∈x.LB,y.size<=4000)/\∀x∈c.names,x.size<=4000
theorem CG(w:World)(S:Nat)(c:b9)(h:jx w S c)(hl:nK c 804)(hz:m6 c):
 Calls prog 32 #[.pointer (some ⟨S,0,none⟩)] w fun e w'=>e=.returned (.bool (jz c))/\Lt w w':=by
 obtain⟨vR,vO,vI,vU,vN,LR,LO,LI,LU,hS,hR,hO,hI,hU,hN,mR,mO,mI,mU⟩:=h.ex;obtain⟨l1,l2,l3,l4,l5⟩:=hl;obtain⟨z1,z2,z3,z4,z5⟩:=hz;rw[<-mR]at l1 z1;rw[<-mO]at l2 z2;rw[<-mI]at l3 z3;rw[<-mU]at l4 z4;have hsv:SV w S vR vO vI vU vN LR LO LI LU c.names:=⟨hS,hR,hO,hI,hU,hN,by simpa using l1,by simpa using l2,by simpa using l3,by simpa using l4,l5⟩;have hzl:Bm LR LO LI LU c.names:=⟨fun x hx=>z1 _ (List.mem_map_of_mem hx),fun x hx=>z2 _ (List.mem_map_of_mem hx),fun x hx=>z3 _ (List.mem_map_of_mem hx),fun x hx=>z4 _ (List.mem_map_of_mem hx),z5⟩;refine(Is w S vR vO vI vU vN LR LO LI LU c.names hsv hzl).mono ?_;rintro e w' ⟨rfl,hb⟩;refine⟨am ?_,hb⟩;have eR:LR.map rN=c.Lu.map aj.name:=by rw[<-mR,List.map_map];rfl
 have eO:LO.map oN=c.Lx.map aH.name:=by rw[<-mO,List.map_map];rfl
 have eI:LI.map iN=c.ifs.map bC.name:=by rw[<-mI,List.map_map];rfl
 have eU:LU.map uN=c.uns.map bB.name:=by rw[<-mU,List.map_map];rfl
 unfold jz r9 oa;rw[eR,eO,eI,eU,mR,mO,mI];have a1:(LR.all fun x=>x.1.LA.all fun y=>ba y (c.Lu.map aj.name))=(c.Lu.all fun r=>r.LA.all fun y=>ba y (c.Lu.map aj.name)):=by rw[<-mR,List.all_map];rfl
 have a2:LR.length=c.Lu.length:=by rw[<-mR];simp
 have a3:(LO.all fun x=>jb (c.Lu.map aj.name) (aZ (c.Lx.map aH.name) (c.ifs.map bC.name) (c.uns.map bB.name)) c.ifs x.1)=c.Lx.all (jb (c.Lu.map aj.name) (aZ (c.Lx.map aH.name) (c.ifs.map bC.name) (c.uns.map bB.name)) c.ifs):=by rw[<-mO,List.all_map];rfl
 have a4:(LI.all fun x=>fu (c.Lu.map aj.name) (aZ (c.Lx.map aH.name) (c.ifs.map bC.name) (c.uns.map bB.name)) x.1.fields)=(c.ifs.all fun i=>fu (c.Lu.map aj.name) (aZ (c.Lx.map aH.name) (c.ifs.map bC.name) (c.uns.map bB.name)) i.fields):=by rw[<-mI,List.all_map];rfl
 have a5:(LU.all fun x=>fw (aZ (c.Lx.map aH.name) (c.ifs.map bC.name) (c.uns.map bB.name)) 2 x.1.LB)=(c.uns.all fun u=>fw (aZ (c.Lx.map aH.name) (c.ifs.map bC.name) (c.uns.map bB.name)) 2 u.LB):=by rw[<-mU,List.all_map];rfl
 rw[a1,a2,a3,a4,a5]
def iw(x:Ls):Nat:=if jW (cc (av x)).2=true then(if jz (cc (av x)).1=true then 0 else 2)else 1
theorem OE(x:Ls)(w:World)(hs:x.size<=maxLen)(hz:m6 (cc (av x)).1):
 Calls prog 22 #[.string x] w fun e w'=>∃v,e=.returned (.tuple #[v,.int .i64 (iw x)])/\Lt w w':=by
 have hc:=FX x w hs;have HQ:=aa (show iw x=if jW (cc (av x)).2=true then(if jz (cc (av x)).1=true then 0 else 2)else 1 from rfl);generalize iw x=FF at*;generalize cc (av x)=cs at*;have HZ:=aa hz;clear hz;cases hd:jW cs.2
 ·rw[hd]at hc HQ
  go_enter func22,ntmps22;go_wp2_with fail;refine hc.mono ?_;clear hc;rintro e w1 ⟨S,rfl,hS,hl,hB1⟩;go_wp2_with fail;go_ret2;exact⟨_,by rw[HQ.o];rfl,hB1⟩
 ·rw[hd]at hc HQ
  cases hr:jz cs.1
  ·rw[hr]at HQ
   go_enter func22,ntmps22;go_wp2_with fail;refine hc.mono ?_;clear hc;rintro e w1 ⟨S,rfl,hS,hl,hB1⟩;have hc2:=CG w1 S cs.1 hS hl HZ.o;rw[hr]at hc2;clear hS hl hr;go_wp2_with fail;refine hc2.mono ?_;clear hc2;rintro e w2 ⟨rfl,hb2⟩;go_wp2_with fail;go_ret2;exact⟨_,by rw[HQ.o];rfl,hB1.trans (hb2.mono hB1.size)⟩
  ·rw[hr]at HQ
   go_enter func22,ntmps22;go_wp2_with fail;refine hc.mono ?_;clear hc;rintro e w1 ⟨S,rfl,hS,hl,hB1⟩;have hc2:=CG w1 S cs.1 hS hl HZ.o;rw[hr]at hc2;clear hS hl hr;go_wp2_with fail;refine hc2.mono ?_;clear hc2;rintro e w2 ⟨rfl,hb2⟩;go_wp2_with fail;go_ret2;exact⟨_,by rw[HQ.o];rfl,hB1.trans (hb2.mono hB1.size)⟩
theorem OF(x:Ls)(w:World)(hs:x.size<=maxLen)(hz:m6 (cc (av x)).1):
 Calls prog 9 #[.string x] w fun e w'=>e=.returned (.int .i64 (iw x))/\Lt w w':=by
 have hc:=OE x w hs hz;generalize iw x=FF at*;go_enter func9,ntmps9;go_wp2_with fail;refine hc.mono ?_;clear hc;rintro e w1 ⟨v,rfl,hB1⟩;go_wp2_with fail;go_ret;exact⟨rfl,hB1⟩
def jL(s:St):Prop:=∀t∈s.getD [],io t
def Wf(b a:St):Prop:=jL a->jL b
theorem Wf.refl(a:St):Wf a a:=fun h=>h
theorem Wf.trans{a b c:St}(h:Wf a b)(k:Wf b c):Wf a c:=fun x=>h (k x)
theorem Wf.none(a:St):Wf none a:=fun _ t ht=>by simp at ht
theorem gE(s:St):Wf (tl s) s:=by
 intro h t ht
 match s,h,ht with
 |Option.none,h,ht=>exact h t ht
 |some [],h,ht=>exact h t ht
 |some (x::l),h,ht=>exact h t (List.mem_cons_of_mem _ ht)
theorem dL(s:St):Wf (ab s) s:=by
 unfold ab;split
 ·exact gE s
 ·exact Wf.none _
theorem jD(s:St)(b:Bool):Wf (ak s b) s:=by
 unfold ak;split
 ·exact gE s
 ·exact Wf.none _
theorem AD(s:St)(b:Bool):Wf (ec s b) s:=by
 unfold ec;split
 ·exact gE s
 ·exact Wf.refl _
theorem kS(s:St)(h:jL s):(nm s).size<=4000:=by
 unfold nm;split
 ·match s,h with
  |Option.none,_=>decide
  |some [],_=>decide
  |some (t::l),h=>exact(h t (by simp)).2.2.1
 ·decide
theorem zw(r:Ls)(s:St):Wf (fT r s).2 s:=by
 unfold fT;refine Wf.trans (jD _ _) (Wf.trans (dL _) (Wf.trans (jD _ _) ?_));split
 ·exact Wf.refl _
 ·exact Wf.none _
theorem I2(a h:Ls)(s:St):Wf (gp a h s).2 s:=by
 unfold gp;split
 ·exact Wf.trans (zw _ _) (dL _)
 ·split
  ·exact Wf.trans (zw _ _) (dL _)
  ·exact Wf.none _
theorem zy:∀(f:Nat) (s:St),Wf (bU f s).2 s
 |0,s=>Wf.refl _
 |f+1,s=>by
  rw[bU];split
  ·exact Wf.trans (AD _ _) (Wf.trans (jD _ _) (Wf.trans (zy f (tl s)) (gE s)))
  ·exact Wf.trans (AD _ _) (dL s)
theorem It(s:St):Wf (jS s).2 s:=by
 unfold jS;refine Wf.trans (jD _ _) (Wf.trans (jD _ _) ?_);unfold jf;split
 ·exact dL s
 ·split
  ·exact dL s
  ·exact Wf.none _
theorem Gn(s:St):Wf (ee s).2 s:=by
 unfold ee;split
 ·exact Wf.trans (jD _ _) (Wf.trans (It _) (gE s))
 ·exact Wf.refl _
theorem C4:∀(f:Nat) (s:St) (a h:Ls),Wf (fo f s a h).2 s
 |0,s,a,h=>Wf.refl _
 |f+1,s,a,h=>by
  rw[fo];split
  ·exact Wf.trans (C4 f _ _ _) (Wf.trans (I2 _ _ _) (gE s))
  ·exact Wf.refl _
theorem ul(s:St):Wf (bL s).2 (ab s):=by
 unfold bL;exact Wf.trans (C4 _ _ _ _) (Wf.trans (zy _ _) (by unfold iu;exact Wf.trans (jD _ _) (Gn _)))
theorem BZ:∀(f:Nat) (s:St),Wf (dv f s).2 s
 |0,s=>Wf.refl _
 |f+1,s=>by
  rw[dv];split
  ·exact Wf.trans (BZ f _) (Wf.trans (ul s) (dL s))
  ·exact Wf.refl _
theorem zB(s:St):Wf (dC s).2 s:=by
 unfold dC;exact Wf.trans (jD _ _) (Wf.trans (BZ _ _) (Wf.trans (ul _) (Wf.trans (dL _) (jD _ _))))
theorem Ce(word:Ls)(part:St->List cw×St)(hp:∀s,Wf (part s).2 s):∀(f:Nat) (acc:List (List cw)) (s:St),Wf (jT word part f acc s).2 s
 |0,_,_=>Wf.refl _
 |f+1,acc,s=>by
  rw[jT];split
  ·exact Wf.trans (Ce word part hp f _ _) (Wf.trans (hp _) (gE s))
  ·exact Wf.refl _
theorem sN(word:Ls)(part:St->List cw×St)(hp:∀s,Wf (part s).2 s)(s:St):Wf (chain word part s).2 s:=
 Wf.trans (Ce word part hp _ _ _) (hp s)
theorem Dn(s:St):Wf (iZ s) s:=by
 unfold iZ;split
 ·exact gE s
 ·unfold iH
  split
  ·exact gE s
  ·split
   ·exact gE s
   ·split
    ·unfold lm
     split
     ·exact gE s
     ·split
      ·exact gE s
      ·split
       ·exact gE s
       ·exact Wf.none _
    ·exact Wf.none _
theorem vy:∀(f:Nat) (s:St),Wf (cd f s).2 s
 |0,s=>Wf.refl _
 |f+1,s=>by
  rw[pn];split
  ·exact Wf.trans (jD _ _) (Wf.trans (sN _ _ (sN _ _ (vy f)) _) (gE s))
  ·split
   ·exact Wf.trans (vy f _) (dL s)
   ·split
    ·exact dL s
    ·split
     ·exact Wf.trans (dL _) (dL s)
     ·exact Wf.trans (Dn _) (Wf.trans (jD _ _) (dL s))
theorem xU:∀(f:Nat) (s:St),Wf (eH f s).2 s
 |0,s=>Wf.refl _
 |f+1,s=>by
  rw[eH];split
  ·exact Wf.trans (xU f _) (dL s)
  ·exact Wf.refl _
theorem Ip(s:St):Wf (fB s).2 s:=by
 unfold fB;split
 ·unfold mq
  simp only[];split
  ·exact Wf.none _
  ·exact Wf.trans (xU _ _) (Wf.trans (gE _) (dL s))
 ·exact dL s
theorem AK:∀(f:Nat) (s:St),Wf (eT f s).2 s
 |0,s=>Wf.refl _
 |f+1,s=>by
  rw[eT];split
  ·exact Wf.trans (AK f _) (dL s)
  ·exact Wf.refl _
theorem CZ(s:St):Wf (dH s).2 s:=by
 unfold dH;split
 ·exact Wf.trans (AK _ _) (Wf.trans (dL _) (gE s))
 ·exact Wf.refl _
theorem yc(s:St):Wf (ey s).2 s:=by
 unfold ey;split
 ·refine Wf.trans (jD _ _) (Wf.trans (sN _ _ (sN _ _ (vy _)) _) ?_)
  unfold ed;exact Wf.trans (jD _ _) (Wf.trans (jD _ _) (gE s))
 ·exact Wf.refl _
theorem Kv(s:St):Wf (cn s).2 s:=by
 unfold cn;dsimp only;exact Wf.trans (zB _) (Wf.trans (yc _) (Wf.trans (CZ _) (dL s)))
theorem AT:∀(f:Nat) (s:St),Wf (eS f s).2 s
 |0,s=>Wf.refl _
 |f+1,s=>by
  rw[eS];split
  ·exact Wf.trans (AT f _) (Wf.trans (dL _) (gE s))
  ·exact Wf.refl _
theorem FC(s:St):Wf (fM s).2 s:=by
 unfold fM;exact Wf.trans (AT _ _) (Wf.trans (dL _) (jD _ _))
theorem zc(c:b9)(s:St):Wf (bX c s).2 (ab s):=by
 unfold bX;split
 ·dsimp only
  exact Ip _
 ·split
  ·dsimp only
   exact Kv _
  ·split
   ·dsimp only
    exact Wf.trans (zB _) (dL _)
   ·split
    ·dsimp only
     exact Wf.trans (FC _) (dL _)
    ·exact Wf.none _
theorem Al:∀(f:Nat) (s:St),jL s->∀y∈(eH f s).1,y.size<=4000
 |0,_,_,y,hy=>by simp[eH]at hy
 |f+1,s,h,y,hy=>by
  rw[eH]at hy;split at hy
  ·rcases List.mem_cons.1 hy with e|e
   ·subst e;exact kS s h
   ·exact Al f _ (dL s h) y e
  ·simp at hy
theorem FR(s:St)(h:jL s):(fB s).1.name.size<=4000/\∀y∈(fB s).1.LA,y.size<=4000:=by
 unfold fB;split
 ·exact⟨kS s h,Al _ _ (gE _ (dL s h))⟩
 ·exact⟨kS s h,fun y hy=>by simp at hy⟩
theorem zu:∀(f:Nat) (s:St),jL s->∀y∈(dv f s).1,y.name.size<=4000
 |0,_,_,y,hy=>by simp[dv]at hy
 |f+1,s,h,y,hy=>by
  rw[dv]at hy;split at hy
  ·rcases List.mem_cons.1 hy with e|e
   ·subst e;exact kS s h
   ·exact zu f _ (Wf.trans (ul s) (dL s) h) y e
  ·simp at hy
theorem AJ(s:St)(h:jL s):∀y∈(dC s).1,y.name.size<=4000:=by
 intro y hy;unfold dC at hy;have h1:=jD s (af s 14) h;rcases List.mem_cons.1 hy with e|e
 ·subst e;exact kS _ h1
 ·exact zu _ _ (Wf.trans (ul _) (dL _) h1) y e
theorem zK:∀(f:Nat) (s:St),jL s->∀y∈(eT f s).1,y.size<=4000
 |0,_,_,y,hy=>by simp[eT]at hy
 |f+1,s,h,y,hy=>by
  rw[eT]at hy;split at hy
  ·rcases List.mem_cons.1 hy with e|e
   ·subst e;exact kS s h
   ·exact zK f _ (dL s h) y e
  ·simp at hy
theorem E4(s:St)(h:jL s):∀y∈(dH s).1,y.size<=4000:=by
 intro y hy;unfold dH at hy;split at hy
 ·rcases List.mem_cons.1 hy with e|e
  ·subst e;exact kS _ (gE s h)
  ·exact zK _ _ (dL _ (gE s h)) y e
 ·simp at hy
theorem BB:∀(f:Nat) (s:St),jL s->∀y∈(eS f s).1,y.size<=4000
 |0,_,_,y,hy=>by simp[eS]at hy
 |f+1,s,h,y,hy=>by
  rw[eS]at hy;split at hy
  ·rcases List.mem_cons.1 hy with e|e
   ·subst e;exact kS _ (gE s h)
   ·exact BB f _ (dL _ (gE s h)) y e
  ·simp at hy
theorem Fv(s:St)(h:jL s):∀y∈(fM s).1,y.size<=4000:=by
 intro y hy;unfold fM at hy;have h1:=jD s (af s 10) h;rcases List.mem_cons.1 hy with e|e
 ·subst e;exact kS _ h1
 ·exact BB _ _ (dL _ h1) y e
theorem oZ{α:Type}{l:List α}{x y:α}(h:y∈l++[x]):y∈l\/y=x:=by
 rcases List.mem_append.1 h with h|h
 ·exact Or.inl h
 ·exact Or.inr (by simpa using h)
theorem yo(c:b9)(s:St)(h:jL s)(hc:m6 c):m6 (bX c s).1:=by
 obtain⟨z1,z2,z3,z4,z5⟩:=hc;have h1:=dL s h;have h2:=dL _ h1;unfold bX;split
 ·refine⟨fun x hx=>?_,z2,z3,z4,z5⟩
  rcases oZ hx with e|e
  ·exact z1 x e
  ·subst e;exact FR _ h1
 ·split
  ·refine⟨z1,fun x hx=>?_,z3,z4,fun x hx=>?_⟩
   ·rcases oZ hx with e|e
    ·exact z2 x e
    ·subst e
     unfold cn;dsimp only;exact⟨AJ _ (yc _ (CZ _ h2)),E4 _ h2⟩
   ·rcases oZ hx with e|e
    ·exact z5 x e
    ·subst e;exact kS _ h1
  ·split
   ·refine⟨z1,z2,fun x hx=>?_,z4,fun x hx=>?_⟩
    ·rcases oZ hx with e|e
     ·exact z3 x e
     ·subst e;exact AJ _ h2
    ·rcases oZ hx with e|e
     ·exact z5 x e
     ·subst e;exact kS _ h1
   ·split
    ·refine⟨z1,z2,z3,fun x hx=>?_,fun x hx=>?_⟩
     ·rcases oZ hx with e|e
      ·exact z4 x e
      ·subst e;exact Fv _ h2
     ·rcases oZ hx with e|e
      ·exact z5 x e
      ·subst e;exact kS _ h1
    ·exact⟨z1,z2,z3,z4,z5⟩
theorem BA:∀(f:Nat) (c:b9) (s:St),jL s->m6 c->m6 (gH f c s).1
 |0,_,_,_,hc=>hc
 |f+1,c,s,h,hc=>by
  rw[gH];split
  ·exact hc
  ·exact BA f _ _ (Wf.trans (zc c s) (dL s) h) (yo c s h hc)
theorem IQ:m6 d8:=⟨fun _ hx=>(List.not_mem_nil hx).elim,fun _ hx=>(List.not_mem_nil hx).elim,fun _ hx=>(List.not_mem_nil hx).elim,fun _ hx=>(List.not_mem_nil hx).elim,fun _ hx=>(List.not_mem_nil hx).elim⟩
theorem xl(s:St)(h:jL s):m6 (cc s).1:=by
 unfold cc;exact BA _ _ _ (Wf.trans (zc _ s) (dL s) h) (yo _ s h IQ)
theorem xB(x:Ls):jL (av x):=by
 cases hq:av x with
 |none=>intro t ht;simp at ht
 |some l=>exact(oc x l hq).1
theorem nQ(l:List Ls):jA l=dZ l:=by
 rw[Bool.eq_iff_iff,kR];constructor
 ·intro h
  have LZ:∀i,i<l.length->ba (l.getD i bE) (l.take i)=false:=by
   intro i hi;cases hb:ba (l.getD i bE) (l.take i)
   ·rfl
   ·rw[BT l i hi hb]at h;cases h
  have key:∀k,k<=l.length->(l.take k).Nodup:=by
   intro k
   induction k with
   |zero=>intro _;simp
   |succ k ih=>
    intro hk;have hx:=KM (show k<l.length by omega);rw[Ld,hx];refine(tK _ _).2 ⟨ih (by omega),fun hin=>?_⟩;have:=LZ k (by omega);rw[List.getD_eq_getElem?_getD,hx,Option.getD_some,(ii _ _).2 hin]at this;cases this
  have:=key l.length (KK _)
  rwa [KW (KK _)]at this
 ·intro h
  refine An l (fun i hi=>?_);cases hb:ba (l.getD i bE) (l.take i)
  ·rfl
  ·have hx:=KM hi
   rw[List.getD_eq_getElem?_getD,hx,Option.getD_some]at hb;have:=zk l i _ hx hb;rw[(kR l).2 h]at this;cases this
def ci:dh->Ls
 | .one n st=>if st=true then n++⟨#[33]⟩else n
 | .list t st=>if st=true then(⟨#[91]⟩++ci t++⟨#[93]⟩)++⟨#[33]⟩else⟨#[91]⟩++ci t++⟨#[93]⟩
theorem Jm:∀(f:Nat) (s:St),ln s<=f->fP (f+1) s=(ci (bU (f+1) s).1,(bU (f+1) s).2):=by
 intro f
 induction f using Nat.strongRecOn with
 |_ f ih=>
 intro s hl;rw[pz,bU];cases hx:af s 12
 ·simp only[Lj,if_false]
  cases h5:af (ab s) 5
  ·simp[ci,ec]
  ·simp[ci,ec]
 ·obtain⟨f',rfl⟩:∃f',f=f'+1:=⟨f-1,by have:=eY s 12 (by decide) hx;omega⟩
  have hh:=ih f' (by omega) (tl s) (by have:=eY s 12 (by decide) hx;omega);simp only[if_true];rw[hh];generalize bU (f'+1) (tl s)=q;cases h5:af (ak q.2 (af q.2 13)) 5
  ·simp[ci,ec]
  ·simp[ci,ec]
theorem Ka:∀(f:Nat) (s:St),ln s<=f->fP f s=fP (f+1) s:=by
 intro f
 induction f with
 |zero=>
  intro s hl
  match s,hl with
  |none,_=>rfl
  |some l,hl=>simp[ln]at hl
 |succ f ih=>
  intro s hl;rw[pz,pz];cases hx:af s 12
  ·rfl
  ·have:=ih (tl s) (by have:=eY s 12 (by decide) hx;omega)
   rw[this]
theorem Dh(s:St)(h:ln s<=801):fP 801 s=(ci (bU 802 s).1,(bU 802 s).2):=by
 rw[Ka 801 s h];exact Jm 801 s h
theorem AP(s:St)(x:Ls)(hx:0<x.size):aq s x=decide (nm s=x):=by
 unfold aq nm af;cases h:((hd s).k==1)
 ·simp only[Bool.false_and,Lj,if_false]
  symm;rw[decide_eq_false_iff_not];intro e;subst e;exact absurd hx (by decide)
 ·simp
theorem Bt(s:St)(x:Ls)(hx:0<x.size):ak s (aq s x)=if nm s=x then ab s else none:=by
 rw[AP s x hx];by_cases h:nm s=x
 ·rw[K9 h,Le h]
  have:=ya s x h hx;unfold ak ab;rw[this]
 ·rw[K8 h,KT h];rfl
theorem j8(b:Bool):ak none b=none:=by unfold ak;split<;>rfl
theorem mH:ab none=none:=rfl
theorem Bd(s:St):(jt s).2=(ee s).2/\(jt s).1=(ee s).1.1:=by
 unfold jt ee;cases hx:af s 7
 ·simp[bE]
 ·simp only[if_true]
  refine⟨?_,rfl⟩;unfold jS jf oj;by_cases h1:nm (tl s)=ik
  ·rw[K9 h1,K9 h1]
   rw[show(⟨#[73,68]⟩:Ls)=lB from rfl,Bt _ lB (by decide)];congr 1
   ·by_cases h2:nm (ak (ab (tl s)) (af (ab (tl s)) 9))=lB
    ·rw[K9 h2,K8];rw[h1,h2];decide
    ·rw[K8 h2,K9]
     unfold jR;rw[h1,KT h2];simp;left;decide
   ·by_cases h2:nm (ak (ab (tl s)) (af (ab (tl s)) 9))=lB
    ·rw[K9 h2,K8];rw[h1,h2];decide
    ·rw[K8 h2,K9]
     unfold jR;rw[h1,KT h2];simp;left;decide
  ·rw[K8 h1,K8 h1]
   by_cases h3:nm (tl s)=mp
   ·rw[K9 h3,K9 h3]
    rw[show(⟨#[73,110,116]⟩:Ls)=j9 from rfl,Bt _ j9 (by decide)];congr 1
    ·by_cases h2:nm (ak (ab (tl s)) (af (ab (tl s)) 9))=j9
     ·rw[K9 h2,K8];rw[h3,h2];decide
     ·rw[K8 h2,K9]
      unfold jR;rw[h3,KT h2];simp;left;decide
    ·by_cases h2:nm (ak (ab (tl s)) (af (ab (tl s)) 9))=j9
     ·rw[K9 h2,K8];rw[h3,h2];decide
     ·rw[K8 h2,K9]
      unfold jR;rw[h3,KT h2];simp;left;decide
   ·rw[K8 h3,K8 h3]
    rw[K9 (show jR (nm (tl s)) (nm (ak (ab (tl s)) (af (ab (tl s)) 9)))=true from by
     unfold jR;rw[KT h1,KT h3];rfl)]
    rw[j8,j8,j8,j8]
theorem rG(f:Nat)(a h:Ls):fo f none a h=((a,h),none):=by
 cases f with
 |zero=>rfl
 |succ f=>rw[fo,K8 (by rw[eP 11 (by decide)];simp)]
theorem uW:∀(f:Nat) (s:St) (a h:Ls),(dJ f s a h).2=(fo f s a h).2/\((fo f s a h).2≠none->(dJ f s a h).1=(fo f s a h).1)
 |0,s,a,h=>⟨rfl,fun _=>rfl⟩
 |f+1,s,a,h=>by
  rw[dJ,fo];cases hx:af s 11
  ·simp
  ·simp only[if_true]
   unfold gp;by_cases h1:nm (tl s)=mh
   ·rw[K9 h1]
    by_cases h2:a=bE
    ·rw[K9 ⟨h1,h2⟩]
     unfold fT;rw[K9 h2];exact uW f _ _ _
    ·rw[K8 (fun e=>h2 e.2),K8 (fun e=>by rw[h1]at e;exact absurd e.1 (by decide))]
     unfold fT;rw[K8 h2];simp only[j8,mH];rw[rG];exact⟨rfl,fun e=>absurd rfl e⟩
   ·rw[K8 h1,K8 (fun e=>h1 e.1)]
    by_cases h3:nm (tl s)=nz
    ·rw[K9 h3]
     by_cases h2:h=bE
     ·rw[K9 ⟨h3,h2⟩]
      unfold fT;rw[K9 h2];exact uW f _ _ _
     ·rw[K8 (fun e=>h2 e.2)]
      unfold fT;rw[K8 h2];simp only[j8,mH];rw[rG];exact⟨rfl,fun e=>absurd rfl e⟩
    ·rw[K8 h3,K8 (fun e=>h3 e.1),rG]
     exact⟨rfl,fun e=>absurd rfl e⟩
def dg(f:ax):bj:=⟨f.name,f.arg,ci f.ty,f.LG,f.LH⟩
theorem zm(s:St)(hl:ln s<=801):(eh s).2=(bL s).2/\((bL s).2≠none->(eh s).1=dg (bL s).1):=by
 have ha:=Bd (ab s);have hl2:ln (ak (jt (ab s)).2 (af (jt (ab s)).2 9))<=801:=KP (cg _ _) (KP (by rw[ha.1];exact C7 _) (KP (bH s) hl));have ht:=Dh _ hl2;unfold eh bL iu dg;dsimp only;rw[ht];rw[ha.1,ha.2];dsimp only;have hm:=uW 801 (bU 802 (ak (ee (ab s)).2 (af (ee (ab s)).2 9))).2 bE bE;rw[show(⟨#[]⟩:Ls)=bE from rfl];refine⟨hm.1,fun e=>?_⟩;rw[hm.2 e]
theorem uJ(b:Bool):ec none b=none:=by unfold ec;split<;>rfl
theorem EO(f:Nat):(bU (f+1) none).2=none:=by
 rw[bU,K8 (by rw[eP 12 (by decide)];simp)];dsimp only;rw[mH];exact uJ _
theorem wZ(s:St)(h:¬af s 1=true):ab s=none:=by unfold ab;rw[K8 h]
theorem B6(s:St)(h:ab s=none):(bL s).2=none:=by
 unfold bL iu;dsimp only;rw[h];have e1:(ee none).2=none:=by unfold ee;rw[K8 (by rw[eP 7 (by decide)];simp)]
 rw[e1,j8];have e2:=EO 801;rw[e2,rG]
theorem BS(s:St)(a b:Nat)(h:a≠b)(ha:af s a=true):af s b=false:=by
 unfold af at*;simp only[beq_iff_eq]at ha;rw[ha];simpa using h
theorem Fk:∀(n:Nat) (s:St) (g:Nat),ln s<=n->n<=801->s.isNone=false->ln (bL s).2<=g->
 (eX (ln s) s).2=ak (dv g (bL s).2).2 (af (dv g (bL s).2).2 15)/\(ak (dv g (bL s).2).2 (af (dv g (bL s).2).2 15)≠none->(eX (ln s) s).1=((bL s).1::(dv g (bL s).2).1).map dg):=by
 intro n
 induction n using Nat.strongRecOn with
 |_ n ih=>
 intro s g hl hn hs hg;have hf:=zm s (by omega);rw[uI s hs,hf.1];have hlt:ln (bL s).2<ln s:=Nat.lt_of_le_of_lt (np s) (lg s hs);cases h15:af (bL s).2 15
 ·simp only[Lj,if_false]
  cases h1:af (bL s).2 1
  ·rw[p6 g _ h1]
   dsimp only;rw[h15];have e0:(eX (ln (bL s).2) (bL s).2).2=none:=by
    cases hn1:(bL s).2.isNone
    ·rw[uI _ hn1]
     have e1:(eh (bL s).2).2=none:=by
      rw[(zm _ (by omega)).1];exact B6 _ (by unfold ab;rw[K8 (by rw[h1];simp)])
     rw[e1,eP 15 (by decide)];rfl
    ·rw[Bh _ hn1]
     simpa using hn1
   rw[e0];exact⟨rfl,fun e=>absurd rfl e⟩
  ·have hn1:(bL s).2.isNone=false:=by
    cases hq:(bL s).2 with
    |none=>rw[hq,eP 1 (by decide)]at h1;cases h1
    |some l=>rfl
   have Ml:=pI _ h1;have hle2:=np (bL s).2;obtain⟨g',rfl⟩:∃g',g=g'+1:=⟨g-1,by omega⟩;have hh:=ih (ln (bL s).2) (by omega) (bL s).2 g' (KK _) (by omega) hn1 (by omega);rw[dv,K9 h1];dsimp only;refine⟨hh.1,fun e=>?_⟩;rw[hh.2 e,hf.2 (by intro hq;rw[hq]at hn1;cases hn1)];rfl
 ·simp only[if_true]
  rw[p6 g _ (BS _ 15 1 (by decide) h15)];dsimp only;rw[h15];refine⟨rfl,fun _=>?_⟩;rw[hf.2 (by intro hq;rw[hq,eP 15 (by decide)]at h15;cases h15)];rfl
theorem uL(s:St)(hl:ln s<=801):(gy s).2=(dC s).2/\((dC s).2≠none->(gy s).1=(dC s).1.map dg):=by
 unfold gy dC;dsimp only;have hl2:ln (ak s (af s 14))<=801:=KP (cg _ _) hl;rw[uU 801 _ hl2];cases hs:(ak s (af s 14)).isNone
 ·exact Fk _ _ 801 (KK _) hl2 hs (KP (np _) (KP (bH _) hl2))
 ·have e:ak s (af s 14)=none:=by simpa using hs
  rw[e];have e2:(bL none).2=none:=B6 none rfl;rw[e2,p6 801 none (eP 1 (by decide))];dsimp only;rw[j8];exact⟨rfl,fun x=>absurd rfl x⟩
theorem F6:∀(n:Nat) (s:St) (g:Nat),ln s<=n->ln s<=g->ia s=true->
 fI (ln s) s=eH g s:=by
 intro n
 induction n using Nat.strongRecOn with
 |_ n ih=>
 intro s g hl hg hok;have hk:af s 1=true:=by unfold ia at hok;exact(Li _ _▸hok).1
 have hkb:kg (nm s)=false:=by
  unfold ia at hok;have h2:=(Li _ _▸hok).2;have:nm s=(hd s).s:=by unfold nm;rw[K9 hk]
  rw[this];simpa using h2
 have hs:s.isNone=false:=by
  cases s with
  |none=>rw[eP 1 (by decide)]at hk;cases hk
  |some l=>rfl
 have hlt:=pI s hk;obtain⟨g',rfl⟩:∃g',g=g'+1:=⟨g-1,by omega⟩;rw[wB s (ab s) hs (by rw[hkb];simp),eH,K9 hok];cases h2:ia (ab s)
 ·simp only[Lj,if_false]
  rw[uq g' _ h2]
 ·simp only[if_true]
  rw[ih (ln (ab s)) (by omega) (ab s) g' (KK _) (by omega) h2]
theorem Cd(s:St)(hl:ln s<=801):(iq s).2=(fB s).2/\((fB s).2≠none->(iq s).1=(fB s).1):=by
 unfold iq fB;cases hx:af (ab s) 9
 ·simp
 ·simp only[if_true]
  have hl2:ln (tl (ab s))<=801:=KP (cK _) (KP (bH s) hl);rw[xk 801 _ hl2];cases hok:ia (tl (ab s))
  ·rw[uq 801 _ hok]
   have e0:(fI (ln (tl (ab s))) (tl (ab s))).2=none:=by
    cases hs:(tl (ab s)).isNone
    ·have e1:(if kg (nm (tl (ab s)))=true then none else ab (tl (ab s)))=none:=by
      by_cases hk:af (tl (ab s)) 1=true
      ·have hn:nm (tl (ab s))=(hd (tl (ab s))).s:=by unfold nm;rw[K9 hk]
       unfold ia at hok;rw[hk,Bool.true_and]at hok;rw[hn,K9 (by simpa using hok)]
      ·split
       ·rfl
       ·exact wZ _ hk
     rw[wB _ none hs e1.symm];have:ia none=false:=by unfold ia;rw[eP 1 (by decide)];rfl
     rw[this];rfl
    ·rw[zG _ hs]
     simpa using hs
   rw[e0];exact⟨by simp[mq],fun e=>absurd (by simp[mq]) e⟩
  ·rw[F6 _ _ 801 (KK _) hl2 hok]
   have hne:(eH 801 (tl (ab s))).1.length≠0:=by
    rw[eH,K9 hok];simp
   exact⟨by unfold mq;rw[K8 hne],fun _=>rfl⟩
theorem DJ:∀(n:Nat) (s:St) (g:Nat),ln s<=n->ln s<=g->
 (fg (ln s) s).2=(eS g (ab s)).2/\((eS g (ab s)).2≠none->(fg (ln s) s).1=nm s::(eS g (ab s)).1):=by
 intro n
 induction n with
 |zero=>
  intro s g hn hg;cases s with
  |none=>
   rw[vp _ rfl,mH,tL _ _ (eP 16 (by decide))];exact⟨rfl,fun e=>absurd rfl e⟩
  |some l=>
   exact absurd (sr (some l) rfl) (by omega)
 |succ n ih=>
  intro s g hn hg;cases hs:s.isNone
  ·have hlt:=sr s hs
   rw[Bq s hs];cases hk:af (ab s) 16
   ·rw[tL _ _ hk]
    simp
   ·obtain⟨g',rfl⟩:∃g',g=g'+1:=⟨g-1,by omega⟩
    rw[eS,K9 hk,K9 rfl];obtain⟨h1,h2⟩:=ih (tl (ab s)) g' (by omega) (by omega);refine⟨h1,fun e=>?_⟩;dsimp only at e⊢;rw[h2 e]
  ·have:s=none:=by simpa using hs
   subst this;rw[vp _ rfl,mH,tL _ _ (eP 16 (by decide))];exact⟨rfl,fun e=>absurd rfl e⟩
theorem Fh:∀(n:Nat) (s:St) (g:Nat),ln s<=n->ln s<=g->
 (fV (ln s) s).2=(eT g (ab s)).2/\((eT g (ab s)).2≠none->(fV (ln s) s).1=nm s::(eT g (ab s)).1):=by
 intro n
 induction n with
 |zero=>
  intro s g hn hg;cases s with
  |none=>
   rw[uY _ rfl,mH,t7 _ _ (eP 1 (by decide))];exact⟨rfl,fun e=>absurd rfl e⟩
  |some l=>
   exact absurd (lg (some l) rfl) (by omega)
 |succ n ih=>
  intro s g hn hg;cases hs:s.isNone
  ·have hlt:=lg s hs
   rw[z8 s hs];cases hk:af (ab s) 1
   ·rw[t7 _ _ hk]
    simp
   ·obtain⟨g',rfl⟩:∃g',g=g'+1:=⟨g-1,by omega⟩
    rw[eT,K9 hk,K9 rfl];obtain⟨h1,h2⟩:=ih (ab s) g' (by omega) (by omega);refine⟨h1,fun e=>?_⟩;dsimp only at e⊢;rw[h2 e]
  ·have:s=none:=by simpa using hs
   subst this;rw[uY _ rfl,mH,t7 _ _ (eP 1 (by decide))];exact⟨rfl,fun e=>absurd rfl e⟩
theorem If(s:St)(hl:ln s<=801):(lP s).2=(dH s).2/\((dH s).2≠none->(lP s).1=(dH s).1):=by
 unfold lP dH;cases hw:aq s m8
 ·simp
 ·simp only[if_true]
  have hl2:ln (tl s)<=801:=KP (cK s) hl;rw[xr 801 _ hl2];exact Fh _ (tl s) 801 (KK _) hl2
theorem Bs(s:St)(hl:ln s<=801):(gm s).2=(fM (ab s)).2/\((fM (ab s)).2≠none->(gm s).1=⟨2,nm s,[],(fM (ab s)).1,false,[]⟩):=by
 have hl2:ln (ak (ab s) (af (ab s) 10))<=801:=KP (cg _ _) (KP (bH s) hl);have H:=DJ _ (ak (ab s) (af (ab s) 10)) 801 (KK _) hl2;unfold gm fM;dsimp only;rw[wU 801 _ hl2];exact⟨H.1,fun e=>by rw[H.2 e]⟩
def gw(word:Ls)(part:St->List cw×St):Nat->St->List cw×St
 |0,s=>([],s)
 |f+1,s=>if aq s word=true then((part (tl s)).1++(gw word part f (part (tl s)).2).1,(gw word part f (part (tl s)).2).2)else([],s)
theorem yq(word:Ls)(part:St->List cw×St):∀(f:Nat) (acc:List (List cw)) (s:St),
 (jT word part f acc s).1.flatten=acc.flatten++(gw word part f s).1/\(jT word part f acc s).2=(gw word part f s).2
 |0,acc,s=>by simp[jT,gw]
 |f+1,acc,s=>by
  rw[jT,gw];cases h:aq s word
  ·simp
  ·simp only[if_true]
   obtain⟨h1,h2⟩:=yq word part f (acc++[(part (tl s)).1]) (part (tl s)).2;rw[h1,h2];simp
theorem wk(word:Ls)(part:St->List cw×St)(s:St):
 chain word part s=((part s).1++(gw word part 801 (part s).2).1,(gw word part 801 (part s).2).2):=by
 unfold chain;obtain⟨h1,h2⟩:=yq word part 801 [(part s).1] (part s).2;rw[h1,h2];simp
def eE(part:St->List cw×St):Nat->St->List cw×St
 |0,s=>([],s)
 |f+1,s=>if (aq s dy||aq s dW)=true then((part (tl s)).1++(eE part f (part (tl s)).2).1,(eE part f (part (tl s)).2).2)else([],s)
theorem Hk(part:St->List cw×St)(hp:∀s,ln (part s).2<=ln s):∀(n:Nat) (s:St) (f g:Nat),ln s<=n->ln s<=f->ln s<=g->ln s<=801->
 ((gw dy part f s).1++(gw dW (chain dy part) g (gw dy part f s).2).1,(gw dW (chain dy part) g (gw dy part f s).2).2)=eE part n s:=by
 intro n
 induction n with
 |zero=>
  intro s f g hn hf hg h8;have ha:aq s dy=false:=by
   cases h:aq s dy
   ·rfl
   ·have:=lJ s _ h;omega
  have ho:aq s dW=false:=by
   cases h:aq s dW
   ·rfl
   ·have:=lJ s _ h;omega
  have e1:gw dy part f s=([],s):=by cases f<;>simp[gw,ha]
  rw[e1];have e2:gw dW (chain dy part) g s=([],s):=by cases g<;>simp[gw,ho]
  simp[e2,eE]
 |succ n ih=>
  intro s f g hn hf hg h8;rw[eE];cases ha:aq s dy
  ·have e1:gw dy part f s=([],s):=by cases f<;>simp[gw,ha]
   rw[e1];dsimp only;cases ho:aq s dW
   ·have e2:gw dW (chain dy part) g s=([],s):=by cases g<;>simp[gw,ho]
    simp[e2]
   ·have hlt:=lJ s _ ho
    have hq:=hp (tl s);obtain⟨g',rfl⟩:∃g',g=g'+1:=⟨g-1,by omega⟩;have H:=ih (part (tl s)).2 801 g' (by omega) (by omega) (by omega) (by omega);rw[gw,K9 ho,K9 (by simp),<-H,wk];simp
  ·have hlt:=lJ s _ ha
   have hq:=hp (tl s);obtain⟨f',rfl⟩:∃f',f=f'+1:=⟨f-1,by omega⟩;have H:=ih (part (tl s)).2 f' g (by omega) (by omega) (by omega) (by omega);rw[K9 (by simp),<-H,gw,K9 ha];simp
theorem tM(f:Nat)(s:St)(hl:ln s<=801):j4 f s=((cd f s).1++(eE (cd f) 801 (cd f s).2).1,(eE (cd f) 801 (cd f s).2).2):=by
 have hq:ln (cd f s).2<=ln s:=pj f s;show chain dW (chain dy (cd f)) s=_;rw[wk,wk,<-Hk (cd f) (pj f) 801 (cd f s).2 801 801 (by omega) (by omega) (by omega) (by omega)];simp
theorem jG(x:Ls):aq none x=false:=by unfold aq;simp[hd,ib]
theorem FT(s:St):kM s=iH s:=by
 unfold kM iH dN lm af aq;by_cases h2:(hd s).k=2
 ·simp[h2]
 ·by_cases h3:(hd s).k=3
  ·simp[h3]
  ·by_cases h1:(hd s).k=1
   ·simp only[h1]
    by_cases a:(hd s).s=jr
    ·simp[a]
    ·by_cases b:(hd s).s=jw
     ·simp[b]
     ·simp[a,b]
   ·simp[h1,h2,h3]
theorem Dc:∀(f:Nat) (s:St),ln s<=f->dP (f+1) s=dP f s:=by
 intro f
 induction f with
 |zero=>
  intro s h;have:aq s dc=false:=by
   cases e:aq s dc
   ·rfl
   ·have:=lJ s _ e;omega
  simp[dP,this]
 |succ f ih=>
  intro s h;rw[dP];cases e:aq s dc
  ·simp[dP,e]
  ·have:=lJ s _ e
   rw[K9 rfl,ih (tl s) (by omega)]
   conv=>rhs;rw[dP,K9 e]
theorem Fb(rr:St->St)(s:St)(h:aq s dc=true)(hl:ln s<=801):dz rr s=dz rr (tl s):=by
 have h1:=lJ s _ h;have e:dP 801 s=dP 801 (tl s):=by
  rw[Dc 800 (tl s) (by omega),dP,K9 h]
 unfold dz;rw[e]
theorem wF(rr:St->St)(s:St)(h:aq s dc=false):dz rr s=
 if aq s dX=true then tl s else if aq s cm=true then ab (tl s)else if af s 7=true then ak (rr (tl s)) (af (rr (tl s)) 8)
 else if aq (ak (ab s) (af (ab s) 10)) eV=true then tl (ak (ab s) (af (ab s) 10))else kM (ak (ab s) (af (ab s) 10)):=by
 have e:dP 801 s=s:=by rw[dP,K8 (by rw[h];simp)]
 unfold dz;rw[e]
theorem xS(rr:St->St):dz rr none=none:=by
 rw[wF rr none (jG _),jG,jG,eP 7 (by decide),mH,j8,jG];simp only[Lj,if_false];unfold kM;split
 ·rfl
 ·rfl
theorem pY(g:Nat):(cd g none).2=none:=by
 have:=pj g none;cases h:(cd g none).2 with
 |none=>rfl
 |some l=>rw[h]at this;simp[ln]at this
theorem rh(f:Nat):bM f none=none:=by cases f<;>rfl
theorem oQ(s:St)(x:Ls)(h:aq s x=true):af s 1=true:=by
 unfold aq at h;unfold af;exact(Li _ _▸h).1
theorem uE(s:St)(h:af s 1=true):ab s=tl s:=by unfold ab;rw[K9 h]
theorem yY(n g:Nat)(hU:∀(s:St) (f:Nat),ln s<=n->ln s<=f+1->(cd g s).2=dz (bM f) s):
 ∀(f:Nat) (s:St) (m:Nat),ln s<=n->ln s<=f->ln s<=m->(eE (cd g) m (cd g s).2).2=bM f s:=by
 intro f
 induction f with
 |zero=>
  intro s m hn hf hm;cases s with
  |none=>
   rw[rh,pY];cases m with
   |zero=>rfl
   |succ m=>rw[eE,jG,jG];rfl
  |some l=>simp[ln]at hf
 |succ f ih=>
  intro s m hn hf hm;cases hs:s.isNone
  ·rw[bM,hs]
   simp only[Lj,if_false];rw[<-hU s f hn hf];have h1:=pj g s;generalize (cd g s).2=s1 at h1⊢;cases ha:aq s1 dy
   ·cases ho:aq s1 dW
    ·cases m with
     |zero=>simp[eE]
     |succ m=>simp[eE,ha,ho]
    ·have:=lJ s1 _ ho
     obtain⟨m',rfl⟩:∃m',m=m'+1:=⟨m-1,by omega⟩;rw[eE,K9 (by simp[ho])];simp only[Lj,if_false,if_true];exact ih (tl s1) m' (by omega) (by omega) (by omega)
   ·have:=lJ s1 _ ha
    obtain⟨m',rfl⟩:∃m',m=m'+1:=⟨m-1,by omega⟩;rw[eE,K9 (by simp[ha])];simp only[if_true];exact ih (tl s1) m' (by omega) (by omega) (by omega)
  ·have:s=none:=by simpa using hs
   subst this;rw[rh,pY];cases m with
   |zero=>rfl
   |succ m=>rw[eE,jG,jG];rfl
theorem FI:∀(n:Nat) (s:St) (g f:Nat),ln s<=n->n<=801->n<=g->ln s<=f+1->(cd g s).2=dz (bM f) s:=by
 intro n
 induction n with
 |zero=>
  intro s g f hn h8 hg hf;cases s with
  |none=>rw[pY,xS]
  |some l=>simp[ln]at hn
 |succ n ih=>
  intro s g f hn h8 hg hf;obtain⟨g',rfl⟩:∃g',g=g'+1:=⟨g-1,by omega⟩;cases hs:s with
  |none=>rw[pY,xS]
  |some l0=>
  rw[<-hs];rw[pn];by_cases h7:af s 7=true
  ·have hw:∀x,aq s x=false:=by
    intro x;cases e:aq s x
    ·rfl
    ·have:=BS s 1 7 (by decide) (oQ s x e);rw[h7]at this;cases this
   have hlt:=eY s 7 (by decide) h7;rw[K9 h7,wF _ s (hw _),hw,hw,h7];simp only[Lj,if_false,if_true];have R:(j4 g' (tl s)).2=bM f (tl s):=by
    rw[tM g' (tl s) (by omega)];exact yY n g' (fun s f h1 h2=>ih s g' f h1 (by omega) (by omega) h2) f (tl s) 801 (by omega) (by omega) (by omega)
   rw[<-R];rfl
  ·rw[K8 h7]
   have hWn:∀x:Ls,0<x.size->(nm s=x↔aq s x=true):=by
    intro x hx;rw[AP s x hx];simp
   by_cases hN:nm s=dc
   ·have hw:=(hWn dc (by decide)).1 hN
    have hlt:=lJ s _ hw;rw[K9 hN,Fb _ s hw (by omega),uE s (oQ s _ hw)];exact ih (tl s) g' f (by omega) (by omega) (by omega) (by omega)
   ·have hw:aq s dc=false:=by
     cases e:aq s dc
     ·rfl
     ·exact absurd ((hWn dc (by decide)).2 e) hN
    rw[K8 hN,wF _ s hw];by_cases hA:nm s=dX
    ·have hw:=(hWn dX (by decide)).1 hA
     rw[K9 hA,K9 hw,uE s (oQ s _ hw)]
    ·rw[K8 hA,K8 (fun e=>hA ((hWn dX (by decide)).2 e))]
     by_cases hI:nm s=cm
     ·have hw:=(hWn cm (by decide)).1 hI
      rw[K9 hI,K9 hw,uE s (oQ s _ hw)]
     ·rw[K8 hI,K8 (fun e=>hI ((hWn cm (by decide)).2 e)),K8 h7,FT]
      rfl
theorem sF(s:St)(g:Nat)(hg:801<=g)(hl:ln s<=801):(j4 g s).2=ja s:=by
 rw[tM g s hl];exact yY 801 g (fun s f h1 h2=>FI 801 s g f h1 (by omega) hg h2) 801 s 801 hl hl hl
theorem FK(s:St)(hl:ln s<=801):(jo s).2=(ey s).2:=by
 unfold jo ey ed;cases h:af s 11
 ·simp
 ·simp only[if_true]
  have hl2:ln (ak (ak (tl s) (aq (tl s) jm)) (af (ak (tl s) (aq (tl s) jm)) 7))<=801:=
   KP (cg _ _) (KP (cg _ _) (KP (cK _) hl))
  rw[sF _ 802 (by decide) hl2]
theorem nw{a b:St}(h:ln b<=ln a)(hb:b≠none):a≠none:=by
 intro e;subst e;cases b with
 |none=>exact hb rfl
 |some l=>simp[ln]at h
theorem Ax(s:St):(ey s).1.isSome=af s 11:=by
 unfold ey;cases h:af s 11<;>simp
theorem ug(s:St)(hl:ln s<=801):(fY s).2=(cn s).2/\((cn s).2≠none->
 (fY s).1=⟨0,(cn s).1.name,(cn s).1.fields.map dg,(cn s).1.LE,(cn s).1.Lw.isSome,(jo (dH (ab s)).2).1⟩):=by
 have h1:ln (ab s)<=801:=KP (bH s) hl;have hi:=If (ab s) h1;have h2:ln (dH (ab s)).2<=801:=KP (qN _) h1;have hr:=FK (dH (ab s)).2 h2;have h3:ln (ey (dH (ab s)).2).2<=801:=KP (ss _) h2;have hf:=uL _ h3;unfold fY cn;dsimp only;rw[hi.1,hr];refine⟨hf.1,fun e=>?_⟩;have e1:(dH (ab s)).2≠none:=nw (KP (oz _) (ss _)) e;rw[hf.2 e,hi.2 e1,Ax]
def dR:List Tk->List cw
 |[]=>[]
 |[_]=>[]
 |t::u::r=>
  if t.k=1 then
   if u.k=10 then(false,t.s)::dR (r.drop 1)
   else if t.s=cm then(true,u.s)::dR r
   else dR (u::r)
  else dR (u::r)
 termination_by l=>l.length
 decreasing_by all_goals(simp;try omega)
def mc(r:List Tk):Prop:=∀t,r.head?=some t->t.k≠10
theorem CS(t:Tk)(r:List Tk)(h:t.k≠1):dR (t::r)=dR r:=by
 cases r with
 |nil=>rw[dR,dR]
 |cons u r=>rw[dR,K8 h]
theorem xb(t:Tk)(r:List Tk)(h:t.s≠cm)(hr:mc r):dR (t::r)=dR r:=by
 cases r with
 |nil=>rw[dR,dR]
 |cons u r=>
  rw[dR,K8 (hr u rfl),K8 h];split<;>rfl
theorem JS(t u v:Tk)(r:List Tk)(h:t.k=1)(hu:u.k=10):dR (t::u::v::r)=(false,t.s)::dR r:=by
 rw[dR,K9 h,K9 hu];rfl
theorem Im(t u:Tk)(r:List Tk)(h:t.k=1)(hs:t.s=cm)(hu:u.k=1):dR (t::u::r)=(true,u.s)::dR r:=by
 rw[dR,K9 h,K8 (by omega),K9 hs]
theorem mc.app{e r:List Tk}(h:mc e)(k:mc r):mc (e++r):=by
 cases e with
 |nil=>exact k
 |cons t e=>intro u hu;exact h u hu
theorem p9(l:List Tk)(k:Nat)(hk:k≠0)(h:af (some l) k=true):∃t r,l=t::r/\t.k=k/\tl (some l)=some r/\hd (some l)=t:=by
 cases l with
 |nil=>simp[af,hd,ib]at h;omega
 |cons t r=>exact⟨t,r,rfl,by simpa [af,hd]using h,rfl,rfl⟩
def sf(out:List cw)(l l':List Tk):Prop:=∃e,l=e++l'/\mc e/\∀r,mc r->dR (e++r)=out++dR r
theorem JD(n g:Nat)(hU:∀(l l':List Tk),ln (some l)<=n->(cd g (some l)).2=some l'->sf (cd g (some l)).1 l l'):
 ∀(m:Nat) (l l':List Tk),ln (some l)<=n->(eE (cd g) m (some l)).2=some l'->sf (eE (cd g) m (some l)).1 l l':=by
 intro m
 induction m with
 |zero=>
  intro l l' hn h;simp only[eE,Option.some.injEq]at h;subst h;exact⟨[],rfl,fun _ h=>by simp at h,fun r _=>by simp[eE]⟩
 |succ m ih=>
  intro l l' hn h;rw[eE]at h⊢;by_cases hw:(aq (some l) dy||aq (some l) dW)=true
  ·rw[K9 hw]at h⊢
   dsimp only at h⊢;have hk:af (some l) 1=true:=by
    rcases(Bool.or_eq_true _ _▸hw:aq (some l) dy=true\/aq (some l) dW=true)with h|h<;>exact oQ _ _ h
   obtain⟨t,r0,hl,ht,htl,hhd⟩:=p9 l 1 (by decide) hk;have hts:t.s≠cm:=by
    intro e;have e2:(hd (some l)).s=cm:=by rw[hhd];exact e
    rcases(Bool.or_eq_true _ _▸hw:aq (some l) dy=true\/aq (some l) dW=true)with h|h
    ·unfold aq at h;rw[e2]at h;simp only[Li,Lc]at h;exact absurd h.2 (by decide)
    ·unfold aq at h;rw[e2]at h;simp only[Li,Lc]at h;exact absurd h.2 (by decide)
   rw[htl]at h⊢;cases hp:(cd g (some r0)).2 with
   |none=>
    rw[hp]at h;have:(eE (cd g) m none).2=none:=by
     cases m with
     |zero=>rfl
     |succ m=>rw[eE,jG,jG];rfl
    rw[this]at h;cases h
   |some l2=>
    rw[hp]at h;subst hl;have hn0:ln (some r0)<=n:=by simp[ln]at hn⊢;omega
    obtain⟨e2,h2,n2,s2⟩:=hU r0 l2 hn0 hp;have hn2:ln (some l2)<=n:=by subst h2;simp[ln]at hn⊢;omega
    obtain⟨e3,h3,n3,s3⟩:=ih l2 l' hn2 h;refine⟨t::(e2++e3),by rw[h2,h3];simp,fun u hu=>?_,fun r hr=>?_⟩
    ·simp at hu;subst hu;omega
    ·rw[List.cons_append,List.append_assoc,xb t _ hts (n2.app (n3.app hr)),s2 _ (n3.app hr),s3 r hr,List.append_assoc]
  ·rw[K8 hw]at h⊢
   simp only[Option.some.injEq]at h;subst h;exact⟨[],rfl,fun _ h=>by simp at h,fun r _=>by simp⟩
theorem Db(n g:Nat)(hU:∀(l l':List Tk),ln (some l)<=n->(cd g (some l)).2=some l'->sf (cd g (some l)).1 l l')
 (l l':List Tk) (hn:ln (some l)<=n) (h8:ln (some l)<=801) (h:(j4 g (some l)).2=some l'):sf (j4 g (some l)).1 l l':=by
 rw[tM g _ h8]at h⊢;dsimp only at h⊢;cases hp:(cd g (some l)).2 with
 |none=>
  rw[hp]at h;have:(eE (cd g) 801 none).2=none:=by rw[eE,jG,jG];rfl
  rw[this]at h;cases h
 |some l2=>
  rw[hp]at h;obtain⟨e2,h2,n2,s2⟩:=hU l l2 hn hp;have hn2:ln (some l2)<=n:=by subst h2;simp[ln]at hn⊢;omega
  obtain⟨e3,h3,n3,s3⟩:=JD n g hU 801 l2 l' hn2 h;refine⟨e2++e3,by rw[h2,h3];simp,n2.app n3,fun r hr=>?_⟩;rw[List.append_assoc,s2 _ (n3.app hr),s3 r hr,List.append_assoc]
theorem Kt(l:List Tk)(h:(hd (some l)).k≠0):∃t,l=t::(l.drop 1)/\tl (some l)=some (l.drop 1):=by
 cases l with
 |nil=>exact absurd rfl h
 |cons t r=>exact⟨t,rfl,rfl⟩
theorem yw:iZ none=none:=by
 unfold iZ iH;rw[jG];rfl
theorem xV(l l':List Tk)(h:iZ (some l)=some l'):∃v,l=v::l':=by
 have key:(hd (some l)).k≠0->tl (some l)=some l'->∃v,l=v::l':=by
  intro h0 h1;obtain⟨t,e,e2⟩:=Kt l h0;rw[e2]at h1;simp only[Option.some.injEq]at h1;exact⟨t,by rw[e,h1]⟩
 unfold iZ at h;by_cases hw:aq (some l) eV=true
 ·rw[K9 hw]at h
  refine key ?_ h;have:=oQ _ _ hw;unfold af at this;simp only[beq_iff_eq]at this;omega
 ·rw[K8 hw]at h
  unfold iH at h;by_cases h2:(hd (some l)).k=2
  ·rw[K9 h2]at h;exact key (by omega) h
  ·rw[K8 h2]at h
   by_cases h3:(hd (some l)).k=3
   ·rw[K9 h3]at h;exact key (by omega) h
   ·rw[K8 h3]at h
    by_cases h1:(hd (some l)).k=1
    ·rw[K9 h1]at h
     refine key (by omega) ?_;unfold lm at h;split at h
     ·exact h
     ·split at h
      ·exact h
      ·split at h
       ·exact h
       ·cases h
    ·rw[K8 h1]at h;cases h
theorem Fy(s:St)(h:af s 1=true):nm s=(hd s).s:=by unfold nm;rw[K9 h]
theorem mG(l l':List Tk)(h:ab (some l)=some l'):∃t,l=t::l'/\t.k=1/\nm (some l)=t.s:=by
 by_cases hk:af (some l) 1=true
 ·obtain⟨t,r,hl,ht,htl,hhd⟩:=p9 l 1 (by decide) hk
  rw[uE _ hk,htl]at h;simp only[Option.some.injEq]at h;exact⟨t,by rw[hl,h],ht,by rw[Fy _ hk,hhd]⟩
 ·rw[wZ _ hk]at h;cases h
theorem th(s:St)(l':List Tk)(k:Nat)(hk:k≠0)(h:ak s (af s k)=some l'):∃t,s=some (t::l')/\t.k=k:=by
 cases s with
 |none=>rw[j8]at h;cases h
 |some l=>
  unfold ak at h;split at h
  ·rename_i hx
   obtain⟨t,r,hl,ht,htl,hhd⟩:=p9 l k hk hx;rw[htl]at h;simp only[Option.some.injEq]at h;exact⟨t,by rw[hl,h],ht⟩
  ·cases h
theorem GR:∀(n g:Nat) (l l':List Tk),n<=g->n<=801->ln (some l)<=n->(cd g (some l)).2=some l'->sf (cd g (some l)).1 l l':=by
 intro n
 induction n with
 |zero=>intro g l l' _ _ h;simp[ln]at h
 |succ n ih=>
  intro g l l' hg h8 hn h;obtain⟨g',rfl⟩:∃g',g=g'+1:=⟨g-1,by omega⟩;rw[pn]at h⊢;by_cases h7:af (some l) 7=true
  ·rw[K9 h7]at h⊢
   dsimp only at h⊢;obtain⟨t,r0,hl,ht,htl,hhd⟩:=p9 l 7 (by decide) h7;rw[htl]at h⊢;obtain⟨u,hu,hk⟩:=th _ l' 8 (by decide) h;subst hl;have hn0:ln (some r0)<=n:=by simp[ln]at hn⊢;omega
   obtain⟨e,he,ne,se⟩:=Db n g' (fun a b h1 h2=>ih g' a b (by omega) (by omega) h1 h2) r0 (u::l') hn0 (by omega) hu;refine⟨t::(e++[u]),by rw[he];simp,fun x hx=>?_,fun r hr=>?_⟩
   ·simp at hx;subst hx;omega
   ·have n8:mc (u::r):=by intro x hx;simp at hx;subst hx;omega
    have e1:=se (u::r) n8;rw[CS u r (by omega)]at e1;rw[List.cons_append,CS t _ (by omega),List.append_assoc];exact e1
  ·rw[K8 h7]at h⊢
   by_cases hN:nm (some l)=dc
   ·rw[K9 hN]at h⊢
    cases hx:ab (some l)with
    |none=>rw[hx,pY]at h;cases h
    |some r0=>
     rw[hx]at h;obtain⟨t,hl,ht,hs⟩:=mG l r0 hx;subst hl;have hn0:ln (some r0)<=n:=by simp[ln]at hn⊢;omega
     obtain⟨e,he,ne,se⟩:=ih g' r0 l' (by omega) (by omega) hn0 h;refine⟨t::e,by rw[he];simp,fun x hx=>?_,fun r hr=>?_⟩
     ·simp at hx;subst hx;omega
     ·rw[List.cons_append,xb t _ (by rw[<-hs,hN];decide) (ne.app hr)]
      exact se r hr
   ·rw[K8 hN]at h⊢
    by_cases hA:nm (some l)=dX
    ·rw[K9 hA]at h⊢
     dsimp only at h⊢;obtain⟨t,hl,ht,hs⟩:=mG l l' h;refine⟨[t],by rw[hl];rfl,fun x hx=>?_,fun r hr=>?_⟩
     ·simp at hx;subst hx;omega
     ·exact xb t r (by rw[<-hs,hA];decide) hr
    ·rw[K8 hA]at h⊢
     by_cases hI:nm (some l)=cm
     ·rw[K9 hI]at h⊢
      dsimp only at h⊢;cases hx:ab (some l)with
      |none=>rw[hx,mH]at h;cases h
      |some r0=>
       rw[hx]at h;obtain⟨t,hl,ht,hs⟩:=mG l r0 hx;obtain⟨u,hl2,hu,hs2⟩:=mG r0 l' h;refine⟨[t,u],by rw[hl,hl2];rfl,fun x hx=>?_,fun r hr=>?_⟩
       ·simp at hx;subst hx;omega
       ·rw[hs2]
        exact Im t u r ht (by rw[<-hs,hI]) hu
     ·rw[K8 hI]at h⊢
      dsimp only at h⊢;cases hm:ak (ab (some l)) (af (ab (some l)) 10)with
      |none=>rw[hm,yw]at h;cases h
      |some r1=>
       rw[hm]at h;obtain⟨u,hu,huk⟩:=th _ r1 10 (by decide) hm;obtain⟨t,hl,ht,hs⟩:=mG l _ hu;obtain⟨v,hv⟩:=xV r1 l' h;refine⟨[t,u,v],by rw[hl,hv];rfl,fun x hx=>?_,fun r hr=>?_⟩
       ·simp at hx;subst hx;omega
       ·rw[hs]
        exact JS t u v r ht huk
theorem Hm(g:Nat)(hg:801<=g)(l l':List Tk)(h8:ln (some l)<=801)(h:(j4 g (some l)).2=some l'):
 dR (iy (some l) (some l'))=(j4 g (some l)).1:=by
 obtain⟨e,he,ne,se⟩:=Db 801 g (fun a b h1 h2=>GR 801 g a b hg (by omega) h1 h2) l l' h8 h8 h;have e0:=se [] (fun x hx=>by simp at hx);have e1:iy (some l) (some l')=e:=by
  unfold iy;rw[he];simp
 rw[e1];have e2:dR []=[]:=by rw[dR]
 rw[e2]at e0;simpa using e0
theorem Kk(s:St)(hl:ln s<=801)(h:(ey s).2≠none):dR (jo s).1=(ey s).1.getD []:=by
 unfold jo ey at*;cases hk:af s 11
 ·simp only[Lj,if_false,Option.getD_none]
  rw[dR]
 ·simp only[hk,if_true,Option.getD_some]at h⊢
  have hl2:ln (ed (tl s))<=801:=KP (cg _ _) (KP (cg _ _) (KP (cK _) hl));have hst:=sF (ed (tl s)) 802 (by decide) hl2;show dR (iy (ed (tl s)) (ja (ed (tl s))))=_;generalize ed (tl s)=s5 at h hl2 hst⊢;rw[<-hst];cases hp:(j4 802 s5).2 with
  |none=>rw[hp,j8]at h;exact absurd rfl h
  |some l'=>
   cases s5 with
   |none=>
    rw[hp]at hst;have e:ja none=none:=rh 801;rw[e]at hst;cases hst
   |some l=>exact Hm 802 (by decide) l l' hl2 hp
theorem IL(s:St)(hl:ln s<=801)(h:(cn s).2≠none):dR (fY s).1.Lw=(cn s).1.Lw.getD []:=by
 have h1:ln (ab s)<=801:=KP (bH s) hl;have h2:ln (dH (ab s)).2<=801:=KP (qN _) h1;have e:=(ug s hl).2 h;rw[e];clear e;unfold cn at h⊢;dsimp only at h⊢;have h3:=nw (oz _) h;exact Kk _ h2 h3
end Go.Proofs.YtgbloieahmkcjaaGreat
