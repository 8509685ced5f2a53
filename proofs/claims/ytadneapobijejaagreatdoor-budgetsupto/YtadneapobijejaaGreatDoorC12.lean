import Derived.Test.YtadneapobijejaaGreatDoorC11
import Derived.Deep.OwnRows
namespace Go.Proofs.YtadneapobijejaaGreatDoor
set_option maxHeartbeats 20000000
set_option maxRecDepth 100000
open Go.RowKit Tryz
open Go.Maps Tryz
abbrev OS:=List Nat×List Bool
def GE(nms:List vD)(st:OS)(x:vD):OS:=if st.2.getD (Ae nms x).toNat false=true then st else(st.1++[(Ae nms x).toNat],st.2.set (Ae nms x).toNat true)
def QU(roles:List At)(j:Nat):List vD:=match roles[j]? with
 |some r=>r.inc
 |none=>[]
def Na(roles:List At)(st:OS):OS:=(QU roles (st.1.getLastD 0)).foldl (GE (roles.map At.name)) (st.1.dropLast,st.2)
def CL(roles:List At):Nat->OS->List Bool
 |0,st=>st.2
 |f+1,st=>if st.1.length=0 then st.2 else CL roles f (Na roles st)
def MT(l:List Bool):Nat:=l.countP (fun x=>!x)
def EZ(st:OS):Nat:=2*MT st.2+st.1.length
def Bp(l:List Bool):List Value:=l.map Value.bool
def GJ(l:List Nat):List Value:=l.map fun j=>Value.int .i64 (j:Nat)
theorem cE(l:List Bool)(j:Nat)(h:l[j]?=some false):MT (l.set j true)+1=MT l:=by
 unfold MT
 induction l generalizing j with
 |nil=>simp at h
 |cons x l ih=>
  cases j with
  |zero=>simp at h;subst h;simp
  |succ j=>
   simp only[List.set_cons_succ,List.countP_cons];have:=ih j (by simpa using h);omega
theorem bD(l:List Nat):l.dropLast=l.take (l.length-1):=by rw[List.dropLast_eq_take]
theorem mQ{w:World}{base n cap m g:Nat}{e:TypeId}{xs:List Value}(h:w.ownsRow base e 1 (.slice (some ⟨g,0,none⟩) n cap) n xs)(hm:m<=n):w.ownsRow base e 1 (.slice (some ⟨g,0,none⟩) m cap) m (xs.take m):=by
 have hl:=h.1;rcases h.2 with⟨e0,_⟩|⟨g',cap',cur,hv,hg,hh,h1,h2,h3,h4⟩
 ·cases e0
 ·cases hv
  refine⟨by rw[List.length_take];omega,Or.inr ⟨_,_,cur,rfl,hg,hh,by omega,h2,h3,?_⟩⟩;rw[<-h4,List.take_take,Nat.mul_one,Nat.min_eq_left (by omega)]
theorem BP.below{w w':World}{M n:Nat}{D:DataW Unit}(h:BP w M n D)(hb:vE w w'):BP w' M n D:=
 World.ownsMap.kept h ⟨hb.os,hb.tape,hb.output,hb.size,fun i hi _=>hb.block i hi⟩ (by simp:some M≠none)
theorem LA(l:List vD)(x:vD)(j:Nat)(hn:l.Nodup)(hj:l[j]?=some x):Ae l x=j:=by
 unfold Ae;rw[Jt l x 0 j (fun y hy e=>by
  subst e;obtain⟨i,hi⟩:=List.mem_iff_getElem?.1 hy;have h1:i<j:=by
   have:=(tP.1 hi).1;simp at this;omega
  rw[List.getElem?_take_of_lt h1]at hi;have:=(List.getElem?_inj (tP.1 hi).1 hn).1 (hi.trans hj.symm);omega) hj]
 simp
theorem info3:(prog.info? 3).map (fun i=>(i.zero,i.size,i.bytes))=some (some (.int .i64 0),1,8):=by kernel_rfl
theorem info4:(prog.info? 4).map (fun i=>(i.zero,i.size,i.bytes))=some (some (.bool false),1,1):=by kernel_rfl
theorem Nk(n:Nat):madeCells #[Value.bool false] n=(Bp (List.replicate n false)).toArray:=by
 apply Array.toList_inj.1;rw[toList_madeCells_one];simp[Bp]
theorem kW(nms:List vD)(st:OS)(x:vD)(h:(Ae nms x).toNat<st.2.length):EZ (GE nms st x)<=EZ st/\(GE nms st x).2.length=st.2.length:=by
 unfold GE;split
 ·exact⟨tL _,rfl⟩
 ·rename_i hf
  have h1:st.2[(Ae nms x).toNat]?=some false:=by
   rw[List.getD_eq_getElem?_getD,tN h]at hf;rw[tN h];simpa using hf
  have:=cE st.2 _ h1;refine⟨?_,by simp⟩;unfold EZ;simp only[uE,uQ,List.length_nil];omega
theorem Us(w:World)(S:Nat)(vR vO vI vU vN:Value)(LR:List (At×Value))(LO:List (Ap×Value×Value×Value))(LI:List (As×Value))(LU:List (Au×Value))(names:List vD)(place M nM:Nat)(D:DataW Unit)(h:SV w S vR vO vI vU vN LR LO LI LU names)(hM:BP w M nM D)(hpm:PM (LR.map rN) D)(hnd:(LR.map rN).Nodup)(xC:∀x∈LR,∀y∈x.1.inc,y∈LR.map rN/\y.size<=4000)(hp:place<LR.length):
 Calls prog 73 #[.pointer (some ⟨S,0,none⟩),.int .i64 place,.map (some M)] w fun e w'=>e=.returned (.slice (some ⟨w.heap.size,0,none⟩) LR.length LR.length)/\w'.heap[w.heap.size]?=some (.cells (Bp (CL (LR.map Prod.fst) (2*LR.length+1) ([place],List.replicate LR.length false))).toArray 4 (0,0))/\vE w w':=by
 obtain⟨i0,hi,hz0,hz1,hz2⟩:=info_parts info3;have hlr:=h.lr;have hmk:=run_make_row' (P:=prog) 124 4 (.bool false) 1 underlying124 info4 rfl .i64 .i64 LR.length (by omega) (by omega);have H0:=Aa h;have HM:=Aa hM;have HPM:=Aa hpm;have HND:=Aa hnd;have HINC:=Aa xC;have hSl:=Ab h.sc;obtain⟨aR,cR,hv⟩:=An h.r.own;subst hv;have c0:w.cell? ⟨S,0,none⟩=some (.slice aR LR.length cR):=Ac h.sc 0;generalize hFF:CL (LR.map Prod.fst) (2*LR.length+1) ([place],List.replicate LR.length false)=FF at*;have HFF:=Aa hFF;clear h hM hpm hnd xC hFF;go_enter func73,ntmps73;go_wp2_with fail;have hbo:vE w ((w.alloc (.cells (madeCells #[.bool false] LR.length) 4)).alloc (.cells #[.int .i64 place] 3)):=IY _ _ _;have hr0:=Lg w (.cells (madeCells #[.bool false] LR.length) 4 (0,0)) (.cells #[.int .i64 place] 3 (0,0));have ho0:((w.alloc (.cells (madeCells #[.bool false] LR.length) 4)).alloc (.cells #[.int .i64 place] 3)).ownsRow (w.heap.size+1) 3 1 (.slice (some ⟨w.heap.size+1,0,none⟩) 1 1) [place].length (GJ [place]):=⟨rfl,Or.inr ⟨_,1,_,rfl,tL _,Mh _ _ _,tL _,by decide,rfl,rfl⟩⟩;rw[Nk]at hbo hr0 ho0⊢;generalize ((w.alloc (.cells (Bp (List.replicate LR.length false)).toArray 4)).alloc (.cells #[.int .i64 place] 3))=wl at*;go_loopg [8,9,10,12,13,42,43,44] (EZ ([place],List.replicate LR.length false)) (fun kk v8 v9 v10 v12 v13 v42 v43 v44 wr=>∃(op:List Nat) (bs:List Bool) (f:Nat),EZ (op,bs)<=kk/\EZ (op,bs)<=f/\EZ (op,bs)<=2000/\wr.ownsRow (w.heap.size+1) 3 1 v8 op.length (GJ op)/\wr.heap[w.heap.size]?=some (.cells (Bp bs).toArray 4 (0,0))/\bs.length=LR.length/\(∀j∈op,j<LR.length)/\vE w wr/\FF=CL (LR.map Prod.fst) f (op,bs))
 case atStart=>
  have hmu:EZ ([place],List.replicate LR.length false)=2*LR.length+1:=by unfold EZ MT;simp[List.countP_replicate]
  exact⟨[place],List.replicate LR.length false,2*LR.length+1,tL _,by omega,by omega,ho0,hr0,by simp,by simpa using hp,hbo,HFF.o.symm⟩
 case round=>
  clear hbo hr0 ho0;obtain⟨wo,rfl⟩:∃wo:World,wo=wr:=⟨_,rfl⟩;obtain⟨op,bs,f,hmk1,hmf,hm2,hown,hbl,hbs,hop,hb,hrel⟩:=hrel;have HR:=Aa hrel;have HOP:=Aa hop;have HBL:=Aa hbl;have hbz:=Ab hbl;clear hrel hop hbl;obtain⟨aO,cO,hvO⟩:=An hown;subst hvO;have hopl:op.length<=2000:=by unfold EZ at hm2;simp only[]at hm2;omega
  by_cases hne:op.length=0
  ·have HE:=Aa (show FF=bs from by
    rw[HR.o];cases f with
    |zero=>rfl
    |succ f=>rw[CL,uC hne])
   have t0:¬(0:Int)<(op.length:Int):=by omega
   clear HR;go_wp2_with fail;go_ret;exact⟨rfl,by rw[HE.o];exact HBL.o,hb⟩
  ·have t0:(0:Int)<(op.length:Int):=by omega
   obtain⟨g,haO⟩:∃g,aO=some ⟨g,0,none⟩:=by
    rcases hown.2 with⟨e,e0⟩|⟨g,cap,cur,hv,_⟩
    ·omega
    ·cases hv;exact⟨g,rfl⟩
   subst haO;have hlast:op.length-1<op.length:=by omega
   have hxl:=tN hlast;have hcl:wo.cell? ⟨g,op.length-1,none⟩=some (.int .i64 (op[op.length-1]:Nat)):=by
    have:=hown.cellAt (op.length-1) (by omega);simpa [GJ,hxl]using this
   have hidx:op[op.length-1]<LR.length:=HOP.o _ (List.getElem_mem _);have HLD:=Aa (show op.getLastD 0=op[op.length-1]from by
    rw[List.getLastD_eq_getLast?,List.getLast?_eq_getElem?,hxl];rfl)
   have hsv:=H0.o.below hb;have cS:wo.cell? ⟨S,0,none⟩=some (.slice aR LR.length cR):=Ac hsv.sc 0;have htake:=mQ hown (m:=op.length-1) (by omega);have hcapO:op.length<=cO:=by
    rcases hown.2 with⟨e,e0⟩|⟨g',cap',cur,hv,_,_,hn1,_⟩
    ·omega
    ·cases hv;exact hn1
   clear hxl;generalize hgi:op[op.length-1]=ix at*;clear hgi;have hxr:=tN hidx;obtain⟨gR,capR,hvR,hcc⟩:=hsv.r.cell (fun _=>rfl) ix _ hxr;cases hvR;have hokr:=hsv.r.ok _ (tO hxr);have d0:wo.cell? ⟨gR,ix*2,none⟩=some (.string LR[ix].1.name):=by simpa using hcc 0 _ rfl
   have d1:wo.cell? ⟨gR,ix*2+1,none⟩=some LR[ix].2:=hcc 1 _ rfl;have hincr:=HINC.o _ (tO hxr);have hokw:=(H0.o.r.ok _ (tO hxr)).1;have HIJ:=Aa (show QU (LR.map Prod.fst) ix=LR[ix].1.inc from by unfold QU;rw[uD,hxr];rfl);clear hcc hxr;generalize LR[ix]=rr at*;obtain⟨⟨rn,wA⟩,rv⟩:=rr;obtain⟨hri,hrl⟩:=hokr;simp only[]at*;obtain⟨aI,cI,rfl⟩:=An hri;have HGL:=Aa (show(op.dropLast).length+1=op.length from by rw[List.length_dropLast];omega);have HDT:=Aa (show GJ op.dropLast=(GJ op).take (op.length-1)from by unfold GJ;rw[bD,List.map_take]);have HNE:=Aa hne;have HINCL:=Aa (show∀f',CL (LR.map Prod.fst) (f'+1) (op,bs)=CL (LR.map Prod.fst) f' (Na (LR.map Prod.fst) (op,bs))from fun f'=>by rw[CL,uB hne]);have hm1:EZ (op.dropLast,bs)+1=EZ (op,bs):=by unfold EZ;simp only[];have:=HGL.o;omega
   have HRR:=Aa (show Na (LR.map Prod.fst) (op,bs)=wA.foldl (GE (LR.map rN)) (op.dropLast,bs)from by
    unfold Na;simp only[];rw[HLD.o,HIJ.o,List.map_map];rfl)
   generalize hgl:op.length=ol at*;clear hne hlast hgl;obtain⟨m,rfl⟩:∃m,ol=m+1:=⟨ol-1,by have:=HNE.o;omega⟩;simp only[Nat.add_sub_cancel]at*;have hdl:op.dropLast.length=m:=by have:=HGL.o;omega
   have hb0:=hb.size;have hix0:(0:Int)<=(ix:Int):=by omega
   have hix1:(ix:Int)<(LR.length:Int):=by omega
   have zg:g<wo.heap.size:=tR wo _ hcl;have zR:gR<wo.heap.size:=tR wo _ d0;have zS:S<wo.heap.size:=tR wo _ cS;go_upto_region 5 with fail;go_cut [10] (fun v10 wc=>v10=.pointer (some ⟨wo.heap.size,0,none⟩)/\wc.heap[wo.heap.size]?=some (.cells #[.string rn,.slice aI wA.length cI] 166 (0,0))/\vE wo wc)
   case first=>
    go_region;all_goals(try go_wp2_with fail)
    all_goals(
     go_meet;exact⟨rfl,tS _ _,((tM _ _).alloc (tL _) _).drew⟩)
   case rest=>
    obtain⟨rfl,hcn,hbc⟩:=hcut;have hstr:=DK.of_own hokw;have HSTR:=Aa hstr;have hbwc:vE w wc:=hb.trans (hbc.mono hb.size);have hownc:=AT htake (hbc.mono (tL _));have hblc:=(hbc.block _ hbz).trans HBL.o;have cn1:wc.cell? ⟨wo.heap.size,1,none⟩=some (.slice aI wA.length cI):=Ac hcn 1;have vM:wc.ownsRow (w.heap.size+1) 3 1 (.slice (some ⟨g,0,none⟩) m cO) op.dropLast.length (GJ op.dropLast):=by rw[HDT.o,hdl];exact hownc
    have HO2:=Aa vM;have HBLC:=Aa hblc;have HHOP:=Aa (show∀j∈op.dropLast,j<LR.length from fun j hj=>HOP.o j ((List.dropLast_sublist op).subset hj));have HHDL:=Aa hdl;have hrl':wA.length<=803:=hrl;clear hown hownc hblc htake hcl d0 d1 cS hcn hri hokw hstr hsv vM hdl;go_wp2_with fail;go_loopg [8,12,13,44] wA.length (fun kk v8 v12 v13 v44 wr=>∃(i:Nat) (op':List Nat) (bs':List Bool),v44=.int .i64 i/\i<=wA.length/\wA.length-i<=kk/\wr.ownsRow (w.heap.size+1) 3 1 v8 op'.length (GJ op')/\wr.heap[w.heap.size]?=some (.cells (Bp bs').toArray 4 (0,0))/\bs'.length=LR.length/\(∀j∈op',j<LR.length)/\vE w wr/\EZ (op',bs')<=EZ (op.dropLast,bs)/\(wA.take i).foldl (GE (LR.map rN)) (op.dropLast,bs)=(op',bs'))
    case atStart=>exact⟨0,op.dropLast,bs,rfl,tU _,by omega,by rw[HHDL.o];have:=HO2.o;rw[HHDL.o]at this;exact this,HBLC.o,hbs,HHOP.o,hbwc,tL _,by simp⟩
    case round=>
     clear HO2 HBLC hbwc cn1 hbc;obtain⟨i,op',bs',rfl,hii,hik,hown,hbl,hbs',hop',hbw,hmu,hfold⟩:=hrel;have HOP':=Aa hop';have HFOLD:=Aa hfold;have HBL':=Aa hbl;clear hop' hfold;have hbz':=Ab hbl;obtain⟨aO',cO',hvO'⟩:=An hown;subst hvO';have hop2:op'.length<=2000:=by unfold EZ at hmu hm2 hm1;simp only[]at hmu hm2 hm1;omega
     by_cases hlti:i<wA.length
     ·have hxi:=tN hlti
      obtain⟨a',cap',e1,_,h3⟩:=HSTR.o.below hbw;cases e1;obtain⟨gs,off,ha,h4⟩:∃g off,aI=some ⟨g,off,none⟩/\∀(j:Nat) (x:vD),wA[j]?=some x->wr.cell? ⟨g,off+j,none⟩=some (.string x):=by
       rcases h3 with e|e
       ·rw[e]at hlti;simp at hlti
       ·exact e
      subst ha;have hcell:=h4 i _ hxi;have hy:=hincr _ (tO hxi);have HXI:=Aa hxi;clear hxi h4 h3;generalize wA[i]=y at*;have hkey:=Ho y hy.2;obtain⟨c,hrun,hat,_⟩:=(HM.o.below hbw).lookup_int Ca underlying73 underlying3 (Gy _) hkey;obtain⟨j,hj,hjv⟩:=HPM.o.val y hy.1;have hcj:c=j:=by
       rw[hjv]at hat;simp only[DataW.lit.injEq,Lit.int.injEq,true_and]at hat;exact hat.symm
      subst hcj;have yS:=LA _ y j HND.o hj;have hjl:j<LR.length:=by have:=(tP.1 hj).1;simpa using this
      have hjb:j<bs'.length:=by omega
      have hxb:=tN hjb;have hcb:wr.cell? ⟨w.heap.size,j,none⟩=some (.bool bs'[j]):=by
       rw[Ac hbl j];simp[Bp,hxb]
      have hfb:=Am hbl j;have HST:=Aa (show(wA.take (i+1)).foldl (GE (LR.map rN)) (op.dropLast,bs)=GE (LR.map rN) (op',bs') y from by
       rw[uG,HXI.o,List.foldl_append,HFOLD.o];rfl)
      have HMS:=Aa (kW (LR.map rN) (op',bs') y (by rw[yS];simpa using hjb));have HIS:=Aa (show GE (LR.map rN) (op',bs') y=if bs'[j]=true then(op',bs')else(op'++[j],bs'.set j true)from by
       unfold GE;rw[yS];simp only[uO,List.getD_eq_getElem?_getD,hxb,Option.getD_some])
      have hj0:(0:Int)<=(j:Int):=by omega
      have hj1:(j:Int)<(LR.length:Int):=by omega
      clear hat hjv hj hy hkey yS hxb;cases hq:bs'[j]
      ·rw[hq]at hcb HIS
       simp only[uM,if_false]at HIS;have hlow:∀q,(Value.slice aO' op'.length cO').ownBlock=some q->w.heap.size+1<=q:=fun q hq=>(hown.lt q hq).1;have wG:(wr.setCell ⟨w.heap.size,j,none⟩ (.bool true)).ownsRow (w.heap.size+1) 3 1 (.slice aO' op'.length cO') op'.length (GJ op'):=Cz hown (Ao.setT hbl (by decide) j (.bool true));have hbl4:=AI hbl j (.bool true);clear hq;go_wp2_with (at_builtin;refine wpList_append_own _ rfl _ _ 256 rfl (w.heap.size+1) 3 i0 _ 1 8 underlying256 hi hz0 hz1 hz2 rfl (by decide) _ _ _ rfl (wG.alloc _) ⟨wr.heap.size,0,none⟩ 1 1 [.int .i64 j] rfl rfl (Cs (wr.setCell ⟨w.heap.size,j,none⟩ (.bool true)) wr.heap.size [.int .i64 j] 3 (by simp[World.setCell])) (fun u hu=>by simp at hu;subst hu;rfl) (by unfold maxLen;omega) (by omega) (by simp[World.setCell];omega) ?_;intro v' w5 vK hgrow _);have hbl5:w5.heap[w.heap.size]?=some (.cells (Bp (bs'.set j true)).toArray 4 (0,0)):=by
        rw[hgrow.block w.heap.size (by simp[World.setCell];omega) (fun e=>by have:=hlow _ e.symm;omega),AK _ _ _ (by simp[World.setCell];omega),hbl4];congr 2;apply Array.toList_inj.1;simp[Bp,List.map_set]
       have hb5:vE w w5:=((hbw.setCell (tL _) _).alloc (by simp[World.setCell];omega) _).grown hgrow (by simp[World.setCell];omega) (fun q hq=>by have:=hlow q hq;omega);have wM:w5.ownsRow (w.heap.size+1) 3 1 v' (op'++[j]).length (GJ (op'++[j])):=by
        rw[uE,show GJ (op'++[j])=GJ op'++[.int .i64 j]from by simp[GJ]];exact vK
       have HX:=Aa (uV wM (uV hbl5 hb5));clear vK hgrow hbl5 hb5 wM wG hbl4;go_wp2_with fail;go_roundg (wA.length-(i+1))
       case measure=>omega
       case rel=>exact⟨i+1,op'++[j],bs'.set j true,by go_num,by omega,tL _,HX.o.1,HX.o.2.1,by simpa using hbs',by
        intro q hq;rcases uZ.1 hq with hq|hq
        ·exact HOP'.o q hq
        ·simp at hq;subst hq;exact hjl,HX.o.2.2,by have h1:=HMS.o.1;rw[HIS.o]at h1;omega,by rw[HST.o,HIS.o]⟩
      ·rw[hq]at hcb HIS
       simp only[if_true]at HIS;clear hq;go_wp2_with fail;go_roundg (wA.length-(i+1))
       case measure=>omega
       case rel=>exact⟨i+1,op',bs',by go_num,by omega,tL _,hown,HBL'.o,hbs',HOP'.o,hbw,hmu,by rw[HST.o,HIS.o]⟩
     ·have HFE:=Aa (show wA.foldl (GE (LR.map rN)) (op.dropLast,bs)=(op',bs')from by
       have:=HFOLD.o;rw[tW (by omega)]at this;exact this)
      obtain⟨f',rfl⟩:∃f',f=f'+1:=⟨f-1,by omega⟩;have HRE:=Aa (show FF=CL (LR.map Prod.fst) f' (op',bs')from by
       rw[HR.o,HINCL.o,HRR.o,HFE.o])
      go_wp2_with fail;go_roundg (EZ (op',bs'))
      case measure=>omega
      case rel=>exact⟨op',bs',f',tL _,by omega,by omega,hown,HBL'.o,hbs',HOP'.o,hbw,HRE.o⟩
theorem SV.shapedR{w:World}{S:Nat}{vR vO vI vU vN:Value}{LR:List (At×Value)}{LO:List (Ap×Value×Value×Value)}{LI:List (As×Value)}{LU:List (Au×Value)}{names:List vD}(h:SV w S vR vO vI vU vN LR LO LI LU names):Hd Po w vR 2 (LR.map rN):=
 h.r.shaped Po rN (fun _=>rfl) (fun _=>rfl) (fun x hx k u hk hu=>by
  obtain⟨a,c,hv⟩:=An (h.r.ok x hx).1;have:MW x=[.string x.1.name,x.2]:=rfl;rw[this]at hu
  match k,hk,hu with
  |1,_,hu=>simp at hu;exact⟨a,_,c,by rw[<-hu];exact hv⟩
  |k+2,_,hu=>simp at hu)
theorem Uk(nms:List vD):∀(l:List vD) (st:OS),(l.foldl (GE nms) st).2.length=st.2.length
 |[],_=>rfl
 |x::l,st=>by
  rw[List.foldl_cons,Uk nms l];unfold GE;split<;>simp
theorem Ur(roles:List At)(n:Nat)(f:Nat)(_:0=0):∀(_:Nat) (st:OS),st.2.length=n->(CL roles f st).length=n:=by
 intro _
 induction f with
 |zero=>intro st h;exact h
 |succ f ih=>
  intro st h;rw[CL];split
  ·exact h
  ·refine ih _ ?_
   unfold Na;rw[Uk];exact h
theorem qJ(w:World)(S:Nat)(vR vO vI vU vN:Value)(LR:List (At×Value))(LO:List (Ap×Value×Value×Value))(LI:List (As×Value))(LU:List (Au×Value))(names:List vD)(h:SV w S vR vO vI vU vN LR LO LI LU names)(hsz:∀x∈LR,x.1.name.size<=4000/\∀y∈x.1.inc,y.size<=4000):
 Calls prog 55 #[.pointer (some ⟨S,0,none⟩)] w fun e w'=>e=.returned (.bool (Dh (LR.map rN)&&(LR.all (fun(x:At×Value)=>x.1.inc.all fun y=>AS y (LR.map rN))&&(List.range LR.length).all (fun(i:Nat)=>!(CL (LR.map Prod.fst) (2*LR.length+1) ([i],List.replicate LR.length false)).getD i false))))/\vE w w':=by
 have H0:=Aa h;have HSZ:=Aa hsz;have hlr:=h.lr;have hc:=WG w vR (LR.map rN) h.shapedR (by simp;omega) (by
  intro x hx;obtain⟨r,hr,rfl⟩:=List.mem_map.1 hx;exact(hsz r hr).1)
 obtain⟨aR,cR,hv⟩:=An h.r.own;subst hv;have c0:w.cell? ⟨S,0,none⟩=some (.slice aR LR.length cR):=Ac h.sc 0;generalize hFF:(Dh (LR.map rN)&&(LR.all (fun(x:At×Value)=>x.1.inc.all fun y=>AS y (LR.map rN))&&(List.range LR.length).all (fun(i:Nat)=>!(CL (LR.map Prod.fst) (2*LR.length+1) ([i],List.replicate LR.length false)).getD i false)))=FF at*;have HFF:=Aa hFF;clear h hsz hFF;go_enter func55,ntmps55;go_wp2_with fail;refine hc.mono ?_;clear hc;rintro e w1 ⟨M,D,rfl,hM,hown,hpm,hb1⟩;have HPM:=Aa hpm;have HOWN:=Aa hown;have c1:=Ah hb1 c0;have hlenN:∀(n:Nat) (ty:TypeId),(Builtin.len_ #[73] ty #[.map (some M)]).run prog (w1.drewN n)=.ok (.int .i64 (Maps.size D)) (w1.drewN n):=fun n ty=>World.ownsMap.len (BP.below hown (below_drewN (tM _ _) n)) underlying73 ty;have hnn:Dh (LR.map rN)=decide (Maps.size D=LR.length):=by
  rw[Bool.eq_iff_iff,Jy,<-hpm.eq];simp
 have HNN:=Aa hnn;clear hnn hpm hown;generalize hsd:Maps.size D=sd at*;clear hsd;by_cases hq:sd=LR.length
 ·have t1:((sd:Int)==(LR.length:Int))=true:=by simp;omega
  have HND:=Aa (show(LR.map rN).Nodup from by rw[<-Jy,HNN.o];simp[hq]);have HFF2:=Aa (show FF=(LR.all (fun(x:At×Value)=>x.1.inc.all fun y=>AS y (LR.map rN))&&(List.range LR.length).all (fun(i:Nat)=>!(CL (LR.map Prod.fst) (2*LR.length+1) ([i],List.replicate LR.length false)).getD i false))from by
   rw[<-HFF.o,HNN.o];simp[hq])
  clear HFF HNN;go_wp2_with fail;go_quiet (fail);have c1q:=Ah (below_drewN (tM _ _) nq) c1;have yD:vE w (w1.drewN nq):=below_drewN hb1 nq;have HOWNq:=Aa (BP.below HOWN.o (below_drewN (tM _ _) nq));clear HOWN hlenN c1;generalize w1.drewN nq=w2 at*;clear hb1;go_wp2_with fail;go_loopg [5,7,8,9,29,34,35,36] LR.length (fun m v5 v7 v8 v9 v29 v34 v35 v36 wr=>∃k:Nat,v29=.int .i64 k/\k<=LR.length/\LR.length-k<=m/\vE w2 wr/\((LR.take k).all (fun(x:At×Value)=>x.1.inc.all fun y=>AS y (LR.map rN)))=true)
  case atStart=>exact⟨0,rfl,tU _,by omega,tM _ _,by simp⟩
  case round=>
   obtain⟨wo,rfl⟩:∃wo:World,wo=wr:=⟨_,rfl⟩;obtain⟨k,rfl,hk,hm,hb,hall⟩:=hrel;have vX:=Aa hall;clear hall;have hbw:vE w wo:=yD.trans (hb.mono yD.size);by_cases hlt:k<LR.length
   ·have hx:=tN hlt
    have hsv:=H0.o.below hbw;obtain⟨gR,capR,hvR,hcc⟩:=hsv.r.cell (fun _=>rfl) k _ hx;cases hvR;have hokw:=(hsv.r.ok _ (tO hx)).1;have hokl:=(hsv.r.ok _ (tO hx)).2;have d0:wo.cell? ⟨gR,k*2,none⟩=some (.string LR[k].1.name):=by simpa using hcc 0 _ rfl
    have d1:wo.cell? ⟨gR,k*2+1,none⟩=some LR[k].2:=hcc 1 _ rfl;have hsz:=(HSZ.o _ (tO hx)).2;have HX:=Aa hx;clear hx hcc hsv;generalize LR[k]=rr at*;obtain⟨⟨rn,wA⟩,rv⟩:=rr;simp only[]at*;obtain⟨aI,cI,rfl⟩:=An hokw;have HSTR:=Aa (DK.of_own hokw);clear hokw;have HXJ:=Aa (show((LR.take (k+1)).all (fun(x:At×Value)=>x.1.inc.all fun y=>AS y (LR.map rN)))=(wA.all fun y=>AS y (LR.map rN))from by
     rw[uG,HX.o,List.all_append,vX.o];simp)
    have vQ:=Aa (show(wA.all fun y=>AS y (LR.map rN))=false->FF=false from fun hF=>by
     rw[HFF2.o,Bool.and_eq_false_iff];left;rw[Bool.eq_false_iff];intro hT;rw[uK]at hT;have:=hT _ (tO HX.o);simp only[]at this;rw[hF]at this;cases this)
    have hbn:vE wo (wo.alloc (.cells #[.string rn,.slice aI wA.length cI] 166)):=(tM _ _).alloc (tL _) _;go_wp2_with fail;go_loopg [7,8,9,36] wA.length (fun m v7 v8 v9 v36 wr=>∃i:Nat,v36=.int .i64 i/\i<=wA.length/\wA.length-i<=m/\vE wo wr/\((wA.take i).all fun y=>AS y (LR.map rN))=true)
    case atStart=>exact⟨0,rfl,tU _,by omega,hbn,by simp⟩
    case round=>
     clear hbn d0 d1;obtain⟨i,rfl,hi,hmi,hbi,wO⟩:=hrel;have wP:=Aa wO;clear wO;have hb2r:vE w2 wr:=hb.trans (hbi.mono hb.size);by_cases hlti:i<wA.length
     ·have hxi:=tN hlti
      obtain⟨a',cap',e1,_,h3⟩:=HSTR.o.below hbi;cases e1;obtain⟨gs,off,ha,h4⟩:∃g off,aI=some ⟨g,off,none⟩/\∀(j:Nat) (x:vD),wA[j]?=some x->wr.cell? ⟨g,off+j,none⟩=some (.string x):=by
       rcases h3 with e|e
       ·rw[e]at hlti;simp at hlti
       ·exact e
      subst ha;have hcell:=h4 i _ hxi;have hy:=hsz _ (tO hxi);have HXI:=Aa hxi;clear hxi h4 h3;generalize wA[i]=y at*;have hkey:=Ho y hy;have hownr:=BP.below HOWNq.o hb2r;have HXT:=Aa (show((wA.take (i+1)).all fun y=>AS y (LR.map rN))=AS y (LR.map rN)from by
       rw[uG,HXI.o,List.all_append,wP.o];simp)
      have HFY:=Aa (show AS y (LR.map rN)=false->FF=false from fun hF=>vQ.o (by
       rw[Bool.eq_false_iff];intro hT;rw[uK]at hT;have:=hT y (tO HXI.o);rw[hF]at this;cases this))
      have hhas:=HPM.o.hasP y;cases hq2:AS y (LR.map rN)
      ·rw[hq2]at hhas
       have HE:=Aa (HFY.o hq2);clear hq2 HFY HXT;go_wp2_with (at_lookup;refine wpList_lookup_own_ok_int _ rfl _ _ 73 rfl 9 3 .i64 Ca underlying73 underlying3 (Gy _) M _ D rfl hownr _ _ rfl hkey ?_;intro c hat hwc;rw[hhas]);go_ret;exact⟨Ak (by rw[HE.o]),yD.trans (hb2r.mono yD.size)⟩
      ·rw[hq2]at hhas HXT
       clear hq2 HFY;go_wp2_with (at_lookup;refine wpList_lookup_own_ok_int _ rfl _ _ 73 rfl 9 3 .i64 Ca underlying73 underlying3 (Gy _) M _ D rfl hownr _ _ rfl hkey ?_;intro c hat hwc;rw[hhas]);go_roundg (wA.length-(i+1))
       case measure=>omega
       case rel=>exact⟨i+1,by go_num,by omega,tL _,hbi,HXT.o⟩
     ·have HXE:=Aa (show((LR.take (k+1)).all (fun(x:At×Value)=>x.1.inc.all fun y=>AS y (LR.map rN)))=true from by
       rw[HXJ.o];have h1:=wP.o;rw[tW (by omega)]at h1;exact h1)
      go_wp2_with fail;go_roundg (LR.length-(k+1))
      case measure=>omega
      case rel=>exact⟨k+1,by go_num,by omega,tL _,hb2r,HXE.o⟩
   ·have xX:LR.all (fun(x:At×Value)=>x.1.inc.all fun y=>AS y (LR.map rN))=true:=by
     have h1:=vX.o;rw[tW (by omega)]at h1;exact h1
    have HKN:=Aa (show∀x∈LR,∀y∈x.1.inc,y∈LR.map rN/\y.size<=4000 from fun x hx y hy=>by
     rw[uK]at xX;have h1:=xX x hx;rw[uK]at h1;exact⟨(Fv _ _).1 (h1 y hy),(HSZ.o x hx).2 y hy⟩)
    have HFF3:=Aa (show FF=(List.range LR.length).all (fun(i:Nat)=>!(CL (LR.map Prod.fst) (2*LR.length+1) ([i],List.replicate LR.length false)).getD i false)from by rw[HFF2.o,xX];rfl);clear xX HFF2;have cwo:=Ah hb c1q;go_wp2_with fail;go_loopg [10,55] LR.length (fun m v10 v55 wr=>∃i:Nat,v55=.int .i64 i/\i<=LR.length/\LR.length-i<=m/\vE w2 wr/\((List.range i).all (fun(i:Nat)=>!(CL (LR.map Prod.fst) (2*LR.length+1) ([i],List.replicate LR.length false)).getD i false))=true)
    case atStart=>exact⟨0,rfl,tU _,by omega,hb,by simp⟩
    case round=>
     clear cwo;obtain⟨i,rfl,hi,hmi,hbi,wO⟩:=hrel;have wP:=Aa wO;clear wO;have hbwr:vE w wr:=yD.trans (hbi.mono yD.size);by_cases hlti:i<LR.length
     ·have hsv:=H0.o.below hbwr
      have hcI:=Us wr S _ _ _ _ _ LR LO LI LU names i M _ D hsv (BP.below HOWNq.o hbi) HPM.o HND.o HKN.o hlti;have HXT:=Aa (show((List.range (i+1)).all (fun(i:Nat)=>!(CL (LR.map Prod.fst) (2*LR.length+1) ([i],List.replicate LR.length false)).getD i false))=(fun(i:Nat)=>!(CL (LR.map Prod.fst) (2*LR.length+1) ([i],List.replicate LR.length false)).getD i false) i from by
       rw[List.range_succ,List.all_append,wP.o];simp)
      have HFY:=Aa (show(fun(i:Nat)=>!(CL (LR.map Prod.fst) (2*LR.length+1) ([i],List.replicate LR.length false)).getD i false) i=false->FF=false from fun hF=>by
       rw[HFF3.o,Bool.eq_false_iff];intro hT;rw[uK]at hT;have:=hT i (List.mem_range.2 hlti);have h9:=hF.symm.trans this;cases h9)
      have hlen:(CL (LR.map Prod.fst) (2*LR.length+1) ([i],List.replicate LR.length false)).length=LR.length:=Ur _ _ _ rfl 0 _ (by simp);simp only[]at HXT HFY;generalize CL (LR.map Prod.fst) (2*LR.length+1) ([i],List.replicate LR.length false)=rb at*;clear hsv;go_wp2_with fail;refine hcI.mono ?_;clear hcI;rintro e w4 ⟨rfl,hblk,hb4⟩;have hib:i<rb.length:=by omega
      have hxb:=tN hib;have hcb:w4.cell? ⟨wr.heap.size,i,none⟩=some (.bool rb[i]):=by
       rw[Ac hblk i];simp[Bp,hxb]
      have HGD:=Aa (show rb.getD i false=rb[i]from by rw[List.getD_eq_getElem?_getD,hxb];rfl);rw[HGD.o]at HXT HFY;have hbb:vE w2 w4:=hbi.trans (hb4.mono hbi.size);clear hblk hb4 hxb;have hi0:(0:Int)<=(i:Int):=by omega
      have hi1:(i:Int)<(LR.length:Int):=by omega
      cases hq3:rb[i]
      ·rw[hq3]at hcb HXT
       clear hq3 HFY HGD;go_wp2_with fail;go_roundg (LR.length-(i+1))
       case measure=>omega
       case rel=>exact⟨i+1,by go_num,by omega,tL _,hbb,HXT.o⟩
      ·rw[hq3]at hcb HFY
       have HE:=Aa (HFY.o rfl);clear hq3 HFY HGD HXT;go_wp2_with fail;go_ret;exact⟨Ak (by rw[HE.o]),yD.trans (hbb.mono yD.size)⟩
     ·go_wp2_with fail
      go_ret;exact⟨Ak (by
       rw[HFF3.o];have h1:=wP.o;rw[show i=LR.length by omega]at h1;exact h1.symm),hbwr⟩
 ·have t1:((sd:Int)==(LR.length:Int))=false:=by simp;omega
  have HE:=Aa (show FF=false from by rw[<-HFF.o,HNN.o];simp[hq]);clear HFF HNN;go_wp2_with fail;go_quiet (fail);go_wp2_with fail;go_ret;exact⟨Ak (by rw[HE.o]),below_drewN hb1 _⟩
def XK(LR:List (At×Value))(LO:List (Ap×Value×Value×Value))(LI:List (As×Value))(LU:List (Au×Value))(names:List vD):Prop:=
 (∀x∈LR,x.1.name.size<=4000/\∀y∈x.1.inc,y.size<=4000)/\(∀x∈LO,(∀f∈x.1.fields,f.name.size<=4000)/\∀y∈x.1.impl,y.size<=4000)/\(∀x∈LI,∀f∈x.1.fields,f.name.size<=4000)/\(∀x∈LU,∀y∈x.1.members,y.size<=4000)/\∀x∈names,x.size<=4000
theorem qG(w:World)(S:Nat)(vR vO vI vU vN:Value)(LR:List (At×Value))(LO:List (Ap×Value×Value×Value))(LI:List (As×Value))(LU:List (Au×Value))(names:List vD)(h:SV w S vR vO vI vU vN LR LO LI LU names)(hz:XK LR LO LI LU names):
 Calls prog 29 #[.pointer (some ⟨S,0,none⟩)] w fun e w'=>e=.returned (.bool ((Dh (LR.map rN)&&(LR.all (fun(x:At×Value)=>x.1.inc.all fun y=>AS y (LR.map rN))&&(List.range LR.length).all (fun(i:Nat)=>!(CL (LR.map Prod.fst) (2*LR.length+1) ([i],List.replicate LR.length false)).getD i false)))&&(KT names&&((LO.all fun x=>FQ (LR.map rN) (AB (LO.map oN) (LI.map iN) (LU.map uN)) (LI.map Prod.fst) x.1)&&((LI.all fun x=>DV (LR.map rN) (AB (LO.map oN) (LI.map iN) (LU.map uN)) x.1.fields)&&((LU.all fun x=>Ea (AB (LO.map oN) (LI.map iN) (LU.map uN)) 2 x.1.members)&&Ix (LO.map Prod.fst)))))))/\vE w w':=by
 obtain⟨z1,z2,z3,z4,z5⟩:=hz;have h1:=qJ w S vR vO vI vU vN LR LO LI LU names h z1;have H2:=Aa (fun w' hb=>kX w' S vR vO vI vU vN LR LO LI LU names (h.below hb) z5);have H3:=Aa (fun w' hb=>mA w' S vR vO vI vU vN LR LO LI LU names (h.below hb) z2);have H4:=Aa (fun w' hb=>fP w' S vR vO vI vU vN LR LO LI LU names (h.below hb) z3);have H5:=Aa (fun w' hb=>sJ w' S vR vO vI vU vN LR LO LI LU names (h.below hb) z4);have H6:=Aa (fun w' hb=>pH w' S vR vO vI vU vN LR LO LI LU names (h.below hb));generalize (Dh (LR.map rN)&&(LR.all (fun(x:At×Value)=>x.1.inc.all fun y=>AS y (LR.map rN))&&(List.range LR.length).all (fun(i:Nat)=>!(CL (LR.map Prod.fst) (2*LR.length+1) ([i],List.replicate LR.length false)).getD i false)))=q1 at*;generalize KT names=q2 at*;generalize (LO.all fun x=>FQ (LR.map rN) (AB (LO.map oN) (LI.map iN) (LU.map uN)) (LI.map Prod.fst) x.1)=q3 at*;generalize (LI.all fun x=>DV (LR.map rN) (AB (LO.map oN) (LI.map iN) (LU.map uN)) x.1.fields)=q4 at*;generalize (LU.all fun x=>Ea (AB (LO.map oN) (LI.map iN) (LU.map uN)) 2 x.1.members)=q5 at*;generalize Ix (LO.map Prod.fst)=q6 at*;clear h z1 z2 z3 z4 z5;cases q1
 ·skip
  go_enter func29,ntmps29;go_wp2_with fail;refine h1.mono ?_;clear h1;rintro e w1 ⟨rfl,hb1⟩;have wE:=hb1;go_wp2_with fail;go_ret;exact⟨Ak (by simp),wE⟩
 ·skip
  cases q2
  ·skip
   go_enter func29,ntmps29;go_wp2_with fail;refine h1.mono ?_;clear h1;rintro e w1 ⟨rfl,hb1⟩;have wE:=hb1;go_wp2_with fail;refine(H2.o w1 wE).mono ?_;rintro e w2 ⟨rfl,hb2⟩;have wL:=wE.trans (hb2.mono wE.size);go_wp2_with fail;go_ret;exact⟨Ak (by simp),wL⟩
  ·skip
   cases q3
   ·skip
    go_enter func29,ntmps29;go_wp2_with fail;refine h1.mono ?_;clear h1;rintro e w1 ⟨rfl,hb1⟩;have wE:=hb1;go_wp2_with fail;refine(H2.o w1 wE).mono ?_;rintro e w2 ⟨rfl,hb2⟩;have wL:=wE.trans (hb2.mono wE.size);go_wp2_with fail;refine(H3.o w2 wL).mono ?_;rintro e w3 ⟨rfl,hb3⟩;have wW:=wL.trans (hb3.mono wL.size);go_wp2_with fail;go_ret;exact⟨Ak (by simp),wW⟩
   ·skip
    cases q4
    ·skip
     go_enter func29,ntmps29;go_wp2_with fail;refine h1.mono ?_;clear h1;rintro e w1 ⟨rfl,hb1⟩;have wE:=hb1;go_wp2_with fail;refine(H2.o w1 wE).mono ?_;rintro e w2 ⟨rfl,hb2⟩;have wL:=wE.trans (hb2.mono wE.size);go_wp2_with fail;refine(H3.o w2 wL).mono ?_;rintro e w3 ⟨rfl,hb3⟩;have wW:=wL.trans (hb3.mono wL.size);go_wp2_with fail;refine(H4.o w3 wW).mono ?_;rintro e w4 ⟨rfl,hb4⟩;have xP:=wW.trans (hb4.mono wW.size);go_wp2_with fail;go_ret;exact⟨Ak (by simp),xP⟩
    ·skip
     cases q5
     ·skip
      go_enter func29,ntmps29;go_wp2_with fail;refine h1.mono ?_;clear h1;rintro e w1 ⟨rfl,hb1⟩;have wE:=hb1;go_wp2_with fail;refine(H2.o w1 wE).mono ?_;rintro e w2 ⟨rfl,hb2⟩;have wL:=wE.trans (hb2.mono wE.size);go_wp2_with fail;refine(H3.o w2 wL).mono ?_;rintro e w3 ⟨rfl,hb3⟩;have wW:=wL.trans (hb3.mono wL.size);go_wp2_with fail;refine(H4.o w3 wW).mono ?_;rintro e w4 ⟨rfl,hb4⟩;have xP:=wW.trans (hb4.mono wW.size);go_wp2_with fail;refine(H5.o w4 xP).mono ?_;rintro e w5 ⟨rfl,hb5⟩;have hbb5:=xP.trans (hb5.mono xP.size);go_wp2_with fail;go_ret;exact⟨Ak (by simp),hbb5⟩
     ·skip
      go_enter func29,ntmps29;go_wp2_with fail;refine h1.mono ?_;clear h1;rintro e w1 ⟨rfl,hb1⟩;have wE:=hb1;go_wp2_with fail;refine(H2.o w1 wE).mono ?_;rintro e w2 ⟨rfl,hb2⟩;have wL:=wE.trans (hb2.mono wE.size);go_wp2_with fail;refine(H3.o w2 wL).mono ?_;rintro e w3 ⟨rfl,hb3⟩;have wW:=wL.trans (hb3.mono wL.size);go_wp2_with fail;refine(H4.o w3 wW).mono ?_;rintro e w4 ⟨rfl,hb4⟩;have xP:=wW.trans (hb4.mono wW.size);go_wp2_with fail;refine(H5.o w4 xP).mono ?_;rintro e w5 ⟨rfl,hb5⟩;have hbb5:=xP.trans (hb5.mono xP.size);go_wp2_with fail;refine(H6.o w5 hbb5).mono ?_;rintro e w6 ⟨rfl,hb6⟩;have hbb6:=hbb5.trans (hb6.mono hbb5.size);go_wp2_with fail;go_ret;exact⟨Ak (by simp),hbb6⟩
def RU(roles:List At):Bool:=Dh (roles.map At.name)&&((roles.all fun r=>r.inc.all fun y=>AS y (roles.map At.name))&&(List.range roles.length).all fun i=>!(CL roles (2*roles.length+1) ([i],List.replicate roles.length false)).getD i false)
def Nf(c:Be):vD->Nat:=AB (c.objs.map Ap.name) (c.ifs.map As.name) (c.uns.map Au.name)
def GQ(c:Be):Bool:=RU c.roles&&(KT c.names&&((c.objs.all (FQ (c.roles.map At.name) (Nf c) c.ifs))&&((c.ifs.all fun i=>DV (c.roles.map At.name) (Nf c) i.fields)&&((c.uns.all fun u=>Ea (Nf c) 2 u.members)&&Ix c.objs))))
def GU(c:Be):Prop:=(∀x∈c.roles,x.name.size<=4000/\∀y∈x.inc,y.size<=4000)/\(∀x∈c.objs,(∀f∈x.fields,f.name.size<=4000)/\∀y∈x.impl,y.size<=4000)/\(∀x∈c.ifs,∀f∈x.fields,f.name.size<=4000)/\(∀x∈c.uns,∀y∈x.members,y.size<=4000)/\∀x∈c.names,x.size<=4000
theorem Xm(w:World)(S:Nat)(c:Be)(h:ES w S c)(hl:JZ c 804)(hz:GU c):
 Calls prog 29 #[.pointer (some ⟨S,0,none⟩)] w fun e w'=>e=.returned (.bool (GQ c))/\vE w w':=by
 obtain⟨vR,vO,vI,vU,vN,LR,LO,LI,LU,hS,hR,hO,hI,hU,hN,mR,mO,mI,mU⟩:=h.ex;obtain⟨l1,l2,l3,l4,l5⟩:=hl;obtain⟨z1,z2,z3,z4,z5⟩:=hz;rw[<-mR]at l1 z1;rw[<-mO]at l2 z2;rw[<-mI]at l3 z3;rw[<-mU]at l4 z4;have hsv:SV w S vR vO vI vU vN LR LO LI LU c.names:=⟨hS,hR,hO,hI,hU,hN,by simpa using l1,by simpa using l2,by simpa using l3,by simpa using l4,l5⟩;have hzl:XK LR LO LI LU c.names:=⟨fun x hx=>z1 _ (List.mem_map_of_mem hx),fun x hx=>z2 _ (List.mem_map_of_mem hx),fun x hx=>z3 _ (List.mem_map_of_mem hx),fun x hx=>z4 _ (List.mem_map_of_mem hx),z5⟩;refine(qG w S vR vO vI vU vN LR LO LI LU c.names hsv hzl).mono ?_;rintro e w' ⟨rfl,hb⟩;refine⟨Ak ?_,hb⟩;have eR:LR.map rN=c.roles.map At.name:=by rw[<-mR,List.map_map];rfl
 have eO:LO.map oN=c.objs.map Ap.name:=by rw[<-mO,List.map_map];rfl
 have eI:LI.map iN=c.ifs.map As.name:=by rw[<-mI,List.map_map];rfl
 have eU:LU.map uN=c.uns.map Au.name:=by rw[<-mU,List.map_map];rfl
 unfold GQ RU Nf;rw[eR,eO,eI,eU,mR,mO,mI];have a1:(LR.all fun x=>x.1.inc.all fun y=>AS y (c.roles.map At.name))=(c.roles.all fun r=>r.inc.all fun y=>AS y (c.roles.map At.name)):=by rw[<-mR,List.all_map];rfl
 have a2:LR.length=c.roles.length:=by rw[<-mR];simp
 have a3:(LO.all fun x=>FQ (c.roles.map At.name) (AB (c.objs.map Ap.name) (c.ifs.map As.name) (c.uns.map Au.name)) c.ifs x.1)=c.objs.all (FQ (c.roles.map At.name) (AB (c.objs.map Ap.name) (c.ifs.map As.name) (c.uns.map Au.name)) c.ifs):=by rw[<-mO,List.all_map];rfl
 have a4:(LI.all fun x=>DV (c.roles.map At.name) (AB (c.objs.map Ap.name) (c.ifs.map As.name) (c.uns.map Au.name)) x.1.fields)=(c.ifs.all fun i=>DV (c.roles.map At.name) (AB (c.objs.map Ap.name) (c.ifs.map As.name) (c.uns.map Au.name)) i.fields):=by rw[<-mI,List.all_map];rfl
 have a5:(LU.all fun x=>Ea (AB (c.objs.map Ap.name) (c.ifs.map As.name) (c.uns.map Au.name)) 2 x.1.members)=(c.uns.all fun u=>Ea (AB (c.objs.map Ap.name) (c.ifs.map As.name) (c.uns.map Au.name)) 2 u.members):=by rw[<-mU,List.all_map];rfl
 rw[a1,a2,a3,a4,a5]
def EV(x:vD):Nat:=if Eb (Aw (Af x)).2=true then(if GQ (Aw (Af x)).1=true then 0 else 2)else 1
def Ex(s:St):Prop:=∀t∈s.getD [],KU t
def Wf(b a:St):Prop:=Ex a->Ex b
theorem Wf.refl(a:St):Wf a a:=fun h=>h
theorem Wf.trans{a b c:St}(h:Wf a b)(k:Wf b c):Wf a c:=fun x=>h (k x)
theorem Wf.none(a:St):Wf none a:=fun _ t ht=>by simp at ht
theorem DI(s:St):Wf (tl s) s:=by
 intro h t ht
 match s,h,ht with
 |Option.none,h,ht=>exact h t ht
 |some [],h,ht=>exact h t ht
 |some (x::l),h,ht=>exact h t (uW _ ht)
theorem BH(s:St):Wf (nmT s) s:=by
 unfold nmT;split
 ·exact DI s
 ·exact Wf.none _
theorem Fg(s:St)(b:Bool):Wf (mustT s b) s:=by
 unfold mustT;split
 ·exact DI s
 ·exact Wf.none _
theorem Yr(s:St)(b:Bool):Wf (mayT s b) s:=by
 unfold mayT;split
 ·exact DI s
 ·exact Wf.refl _
theorem Ht(s:St)(h:Ex s):(nm s).size<=4000:=by
 unfold nm;split
 ·match s,h with
  |Option.none,_=>decide
  |some [],_=>decide
  |some (t::l),h=>exact(h t (by simp)).2.2.1
 ·decide
theorem Yx(r:vD)(s:St):Wf (EH r s).2 s:=by
 unfold EH;refine Wf.trans (Fg _ _) (Wf.trans (BH _) (Wf.trans (Fg _ _) ?_));split
 ·exact Wf.refl _
 ·exact Wf.none _
theorem tE(a h:vD)(s:St):Wf (Ee a h s).2 s:=by
 unfold Ee;split
 ·exact Wf.trans (Yx _ _) (BH _)
 ·split
  ·exact Wf.trans (Yx _ _) (BH _)
  ·exact Wf.none _
theorem YB:∀(f:Nat) (s:St),Wf (BL f s).2 s
 |0,s=>Wf.refl _
 |f+1,s=>by
  rw[BL];split
  ·exact Wf.trans (Yr _ _) (Wf.trans (Fg _ _) (Wf.trans (YB f (tl s)) (DI s)))
  ·exact Wf.trans (Yr _ _) (BH s)
theorem tC(s:St):Wf (GM s).2 s:=by
 unfold GM;refine Wf.trans (Fg _ _) (Wf.trans (Fg _ _) ?_);unfold Fy;split
 ·exact BH s
 ·split
  ·exact BH s
  ·exact Wf.none _
theorem tD(s:St):Wf (Ed s).2 s:=by
 unfold Ed;split
 ·exact Wf.trans (Fg _ _) (Wf.trans (tC _) (DI s))
 ·exact Wf.refl _
theorem Yy:∀(f:Nat) (s:St) (a h:vD),Wf (EI f s a h).2 s
 |0,s,a,h=>Wf.refl _
 |f+1,s,a,h=>by
  rw[EI];split
  ·exact Wf.trans (Yy f _ _ _) (Wf.trans (tE _ _ _) (DI s))
  ·exact Wf.refl _
theorem PA(s:St):Wf (Dj s).2 (nmT s):=by
 unfold Dj;exact Wf.trans (Yy _ _ _ _) (Wf.trans (YB _ _) (by unfold Iu;exact Wf.trans (Fg _ _) (tD _)))
theorem Yt:∀(f:Nat) (s:St),Wf (CY f s).2 s
 |0,s=>Wf.refl _
 |f+1,s=>by
  rw[CY];split
  ·exact Wf.trans (Yt f _) (Wf.trans (PA s) (BH s))
  ·exact Wf.refl _
theorem Ys(s:St):Wf (CF s).2 s:=by
 unfold CF;exact Wf.trans (Fg _ _) (Wf.trans (Yt _ _) (Wf.trans (PA _) (Wf.trans (BH _) (Fg _ _))))
theorem Yq(word:vD)(part:St->List Cq×St)(hp:∀s,Wf (part s).2 s):∀(f:Nat) (acc:List (List Cq)) (s:St),Wf (II word part f acc s).2 s
 |0,_,_=>Wf.refl _
 |f+1,acc,s=>by
  rw[II];split
  ·exact Wf.trans (Yq word part hp f _ _) (Wf.trans (hp _) (DI s))
  ·exact Wf.refl _
theorem Py(word:vD)(part:St->List Cq×St)(hp:∀s,Wf (part s).2 s)(s:St):Wf (chain word part s).2 s:=
 Wf.trans (Yq word part hp _ _ _) (hp s)
theorem tI(s:St):Wf (IS s) s:=by
 unfold IS;split
 ·exact DI s
 ·unfold pVal
  split
  ·exact DI s
  ·split
   ·exact DI s
   ·split
    ·unfold Jd
     split
     ·exact DI s
     ·split
      ·exact DI s
      ·split
       ·exact DI s
       ·exact Wf.none _
    ·exact Wf.none _
theorem Sv:∀(f:Nat) (s:St),Wf (GN f s).2 s
 |0,s=>Wf.refl _
 |f+1,s=>by
  rw[RH];split
  ·exact Wf.trans (Fg _ _) (Wf.trans (Py _ _ (Py _ _ (Sv f)) _) (DI s))
  ·split
   ·exact Wf.trans (Sv f _) (BH s)
   ·split
    ·exact BH s
    ·split
     ·exact Wf.trans (BH _) (BH s)
     ·exact Wf.trans (tI _) (Wf.trans (Fg _ _) (BH s))
theorem Yw:∀(f:Nat) (s:St),Wf (DG f s).2 s
 |0,s=>Wf.refl _
 |f+1,s=>by
  rw[DG];split
  ·exact Wf.trans (Yw f _) (BH s)
  ·exact Wf.refl _
theorem tH(s:St):Wf (Es s).2 s:=by
 unfold Es;split
 ·unfold LE
  simp only[];split
  ·exact Wf.none _
  ·exact Wf.trans (Yw _ _) (Wf.trans (DI _) (BH s))
 ·exact BH s
theorem Yv:∀(f:Nat) (s:St),Wf (DO f s).2 s
 |0,s=>Wf.refl _
 |f+1,s=>by
  rw[DO];split
  ·exact Wf.trans (Yv f _) (BH s)
  ·exact Wf.refl _
theorem Yu(s:St):Wf (Fz s).2 s:=by
 unfold Fz;split
 ·exact Wf.trans (Yv _ _) (Wf.trans (BH _) (DI s))
 ·exact Wf.refl _
theorem YA(s:St):Wf (Hw s).2 s:=by
 unfold Hw;split
 ·refine Wf.trans (Fg _ _) (Wf.trans (Py _ _ (Py _ _ (Sv _)) _) ?_)
  unfold JB;exact Wf.trans (Fg _ _) (Wf.trans (Fg _ _) (DI s))
 ·exact Wf.refl _
theorem tG(s:St):Wf (Cu s).2 s:=by
 unfold Cu;dsimp only;exact Wf.trans (Ys _) (Wf.trans (YA _) (Wf.trans (Yu _) (BH s)))
theorem Yz:∀(f:Nat) (s:St),Wf (DP f s).2 s
 |0,s=>Wf.refl _
 |f+1,s=>by
  rw[DP];split
  ·exact Wf.trans (Yz f _) (Wf.trans (BH _) (DI s))
  ·exact Wf.refl _
theorem tF(s:St):Wf (EJ s).2 s:=by
 unfold EJ;exact Wf.trans (Yz _ _) (Wf.trans (BH _) (Fg _ _))
theorem Pz(c:Be)(s:St):Wf (By c s).2 (nmT s):=by
 unfold By;split
 ·dsimp only
  exact tH _
 ·split
  ·dsimp only
   exact tG _
  ·split
   ·dsimp only
    exact Wf.trans (Ys _) (BH _)
   ·split
    ·dsimp only
     exact Wf.trans (tF _) (BH _)
    ·exact Wf.none _
theorem XW:∀(f:Nat) (s:St),Ex s->∀y∈(DG f s).1,y.size<=4000
 |0,_,_,y,hy=>by simp[DG]at hy
 |f+1,s,h,y,hy=>by
  rw[DG]at hy;split at hy
  ·rcases vB.1 hy with e|e
   ·subst e;exact Ht s h
   ·exact XW f _ (BH s h) y e
  ·simp at hy
theorem rY(s:St)(h:Ex s):(Es s).1.name.size<=4000/\∀y∈(Es s).1.inc,y.size<=4000:=by
 unfold Es;split
 ·exact⟨Ht s h,XW _ _ (DI _ (BH s h))⟩
 ·exact⟨Ht s h,fun y hy=>by simp at hy⟩
theorem XU:∀(f:Nat) (s:St),Ex s->∀y∈(CY f s).1,y.name.size<=4000
 |0,_,_,y,hy=>by simp[CY]at hy
 |f+1,s,h,y,hy=>by
  rw[CY]at hy;split at hy
  ·rcases vB.1 hy with e|e
   ·subst e;exact Ht s h
   ·exact XU f _ (Wf.trans (PA s) (BH s) h) y e
  ·simp at hy
theorem XT(s:St)(h:Ex s):∀y∈(CF s).1,y.name.size<=4000:=by
 intro y hy;unfold CF at hy;have h1:=Fg s (Ad s 14) h;rcases vB.1 hy with e|e
 ·subst e;exact Ht _ h1
 ·exact XU _ _ (Wf.trans (PA _) (BH _) h1) y e
theorem XV:∀(f:Nat) (s:St),Ex s->∀y∈(DO f s).1,y.size<=4000
 |0,_,_,y,hy=>by simp[DO]at hy
 |f+1,s,h,y,hy=>by
  rw[DO]at hy;split at hy
  ·rcases vB.1 hy with e|e
   ·subst e;exact Ht s h
   ·exact XV f _ (BH s h) y e
  ·simp at hy
theorem rW(s:St)(h:Ex s):∀y∈(Fz s).1,y.size<=4000:=by
 intro y hy;unfold Fz at hy;split at hy
 ·rcases vB.1 hy with e|e
  ·subst e;exact Ht _ (DI s h)
  ·exact XV _ _ (BH _ (DI s h)) y e
 ·simp at hy
theorem XY:∀(f:Nat) (s:St),Ex s->∀y∈(DP f s).1,y.size<=4000
 |0,_,_,y,hy=>by simp[DP]at hy
 |f+1,s,h,y,hy=>by
  rw[DP]at hy;split at hy
  ·rcases vB.1 hy with e|e
   ·subst e;exact Ht _ (DI s h)
   ·exact XY f _ (BH _ (DI s h)) y e
  ·simp at hy
theorem rX(s:St)(h:Ex s):∀y∈(EJ s).1,y.size<=4000:=by
 intro y hy;unfold EJ at hy;have h1:=Fg s (Ad s 10) h;rcases vB.1 hy with e|e
 ·subst e;exact Ht _ h1
 ·exact XY _ _ (BH _ h1) y e
theorem KS{α:Type}{l:List α}{x y:α}(h:y∈l++[x]):y∈l\/y=x:=by
 rcases uZ.1 h with h|h
 ·exact Or.inl h
 ·exact Or.inr (by simpa using h)
theorem XS(c:Be)(s:St)(h:Ex s)(hc:GU c):GU (By c s).1:=by
 obtain⟨z1,z2,z3,z4,z5⟩:=hc;have h1:=BH s h;have h2:=BH _ h1;unfold By;split
 ·refine⟨fun x hx=>?_,z2,z3,z4,z5⟩
  rcases KS hx with e|e
  ·exact z1 x e
  ·subst e;exact rY _ h1
 ·split
  ·refine⟨z1,fun x hx=>?_,z3,z4,fun x hx=>?_⟩
   ·rcases KS hx with e|e
    ·exact z2 x e
    ·subst e
     unfold Cu;dsimp only;exact⟨XT _ (YA _ (Yu _ h2)),rW _ h2⟩
   ·rcases KS hx with e|e
    ·exact z5 x e
    ·subst e;exact Ht _ h1
  ·split
   ·refine⟨z1,z2,fun x hx=>?_,z4,fun x hx=>?_⟩
    ·rcases KS hx with e|e
     ·exact z3 x e
     ·subst e;exact XT _ h2
    ·rcases KS hx with e|e
     ·exact z5 x e
     ·subst e;exact Ht _ h1
   ·split
    ·refine⟨z1,z2,z3,fun x hx=>?_,fun x hx=>?_⟩
     ·rcases KS hx with e|e
      ·exact z4 x e
      ·subst e;exact rX _ h2
     ·rcases KS hx with e|e
      ·exact z5 x e
      ·subst e;exact Ht _ h1
    ·exact⟨z1,z2,z3,z4,z5⟩
theorem XX:∀(f:Nat) (c:Be) (s:St),Ex s->GU c->GU (Er f c s).1
 |0,_,_,_,hc=>hc
 |f+1,c,s,h,hc=>by
  rw[Er];split
  ·exact hc
  ·exact XX f _ _ (Wf.trans (Pz c s) (BH s) h) (XS c s h hc)
theorem rU:GU FJ:=⟨fun _ hx=>(List.not_mem_nil hx).elim,fun _ hx=>(List.not_mem_nil hx).elim,fun _ hx=>(List.not_mem_nil hx).elim,fun _ hx=>(List.not_mem_nil hx).elim,fun _ hx=>(List.not_mem_nil hx).elim⟩
theorem NC(s:St)(h:Ex s):GU (Aw s).1:=by
 unfold Aw;exact XX _ _ _ (Wf.trans (Pz _ s) (BH s) h) (XS _ s h rU)
theorem Mo(x:vD):Ex (Af x):=by
 cases hq:Af x with
 |none=>intro t ht;simp at ht
 |some l=>exact(MO x l hq).1
inductive Reach{α:Type}(R:α->α->Prop):α->α->Prop
 |refl (a:α):Reach R a a
 |step {a b c:α}:Reach R a b->R b c->Reach R a c
inductive PD where
 |o (x:Ap)
 |i (x:As)
 |u (x:Au)
inductive F2{α β:Type}(R:α->β->Prop):List α->List β->Prop
 |nil:F2 R [] []
 |cons {a:α} {b:β} {l:List α} {m:List β}:R a b->F2 R l m->F2 R (a::l) (b::m)
theorem bB(s:St):MS s=Eb s:=by
 match s with
 |none=>rfl
 |some []=>rfl
 |some (t::l)=>rfl
end Go.Proofs.YtadneapobijejaaGreatDoor
