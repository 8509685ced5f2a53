import Derived.Test.YtogdodlibkckkaaGreatDoorZM3
namespace Go.Proofs.YtogdodlibkckkaaGreatDoor
set_option maxHeartbeats 20000000
set_option maxRecDepth 100000
open Go.RowKit Tryz
theorem infoCl:(prog.info? 41).map (fun i=>(i.zero,i.size,i.bytes))=some (some (.agg #[.string ⟨#[]⟩,.string ⟨#[]⟩]),2,32):=by kernel_rfl
def ACL:yF:=⟨#[110,111,116,101]⟩
theorem AEO(w:World)(hit:GM w)(name other id h:yF):
 Calls prog 4 #[.string name,.string other,.string id,.string h] w fun e w'=>e=.returned (.bool true)/\yG w w':=by
 have bO:=Aa (fun(d:World) (s:yG w d)=>uL d (hit.below s));have bK:=Aa (fun(d:World)=>AEb d name);have bJ:=Aa (fun(d:World)=>kK d h);have a9:=Aa (fun(d:World)=>kK d id);have bL:=Aa (ACM (idT id));have aw:=Aa (AEM name other id h);have ay:=Aa (ABg (ACO (ABr name) (ABr h)) (m5A (Mh name) (Mh h)));have az:=Aa (ABg (ACO (ABr name) (ABr h)) (m6A (Mh name) (Mh h)));have P:=Aa (xZ (ABg (ACO (ABr name) (ABr h)) (role:=AFK) (q:=mq5) rfl) (ADj (Mh name) (Mh h)));have ax:=Aa (ABg (ACO (ABr name) (ABr h)) (m1A (Mh name) (Mh h)));have aA:=Aa (ABg (ACO (ABr name) (ABr h)) (idA (Mh name) (Mh h) id));have aC:=Aa (smA (ACM name) (ACM h));have bN:=Aa (smC (ACM h));have bM:=Aa (smB (ACM other));have bb:=Aa (fun(d:World)=>qO d other);rw[AEN]at bb;generalize Ft La (ABe (Mh name) (Mh h)) AFK bE mq5 bE 5000=aB at P;generalize Mh other=bD at*;have ai:=Aa hit;clear hit;go_enter func4,ntmps4;go_wp2_with fail;refine(bO.o w (wR _ _)).mono ?_;rintro _ w2 ⟨rfl,U⟩;have a1:=Aa U;clear U;go_wp2_with fail;refine(bK.o w2).mono ?_;rintro _ w3 ⟨g,t,K,L,rfl,v,W,cH,cI,cJ,cK⟩;have a2:=Aa (bT a1.o W);have ak:=Aa v;have c0:=Ac v.r;have cA:=Ak v.r;have ch:=Ab v.r;unfold rwB at c0;have z3:=a2.o.size;have z2:=a1.o.size;have b7:w3.ownsRow w.heap.size 41 2 (.slice (some ⟨K,0,none⟩) 4 4) 4 (pc2.flatMap clV):=⟨rfl,.inr ⟨K,4,(pc2.flatMap clV).toArray,rfl,by omega,v.c2,wQ _,by unfold maxLen;omega,rfl,rfl⟩⟩;have aN:∀k,k≠K->Option.some k≠(Value.slice (some ⟨K,0,none⟩) 4 4).ownBlock:=fun k x e=>x (xD e);obtain⟨cg,b8,bF⟩:=yC.1 infoCl;simp only[Prod.mk.injEq]at bF;obtain⟨cw,cx,cy⟩:=bF;clear W v;generalize Mh h=f at*;obtain⟨y,cf⟩:∃y,y=Mh name:=⟨_,rfl⟩;rw[<-cf]at ak aw ay az P ax aA aC;go_wp2;go_cut [] (fun wc=>∃b cap,wc.heap[g]?=some (.cells (rwB t b L 5 cap) 38 (0,0))/\Jr wc (.slice (some ⟨t,0,none⟩) 1 1) pc1/\Jr wc (.slice (some ⟨b,0,none⟩) 5 cap) (pc2++[(ACL,f)])/\Jr wc (.slice (some ⟨L,0,none⟩) 2 2) (pc3 y)/\yG w wc)
 case first=>
  go_region_law (first
   |(refine step_append_lies _ (by rfl) _ _ _ (by rfl) w.heap.size 41 cg _ 2 32 underlying36 b8 cw cx cy rfl (by decide) _ _ _ (by rfl) (aK.alloc _) ⟨w4.heap.size,0,none⟩ 1 1 [.string ⟨#[110,111,116,101]⟩,.string f] (by rfl) (by rfl) (Cz _ _ _ _ (by simp)) (Xn rfl rfl) (by decide) (by unfold maxLen;omega) (by omega) (by simp;omega) (w4.heap.size+1) (by simp) ?_;intro b cap w5 aO ap bv cC;have aa:=(ap.block g (by simp;omega) (aN g (by omega))).trans ((AJ _ _ _ ci).trans aJ);have bn:=Ac aa;have b3:=Ak aa;have ck:=Ab aa;unfold rwB at bn)
   |(go_simp;go_at_call 12;refine(bJ.o _).mono ?_;rintro _ w4 ⟨rfl,X⟩;have J:yG w3 w4:=(by first|exact X|exact(wR _ _).drew.trans X);have aK:=AT b7 J;have aJ:=(J.block g ch).trans ak.o.r;have c4:=Ac aJ;have ci:=Ab aJ;have z4:=J.size;unfold rwB at c4))
  all_goals(
   have x:∀k,k<w3.heap.size->k≠K->w5.heap[k]?=w3.heap[k]?:=fun k x M=>(ap.block k (by simp;omega) (aN k M)).trans ((AJ _ _ _ (by omega)).trans (J.block k x));have bw:=(bA (bT a2.o J) (.cells #[.string ⟨#[110,111,116,101]⟩,.string f] 41)).grown ap (by simp;omega) (fun k x=>(aK.lt k x).1);have bx:=bS bw ⟨g,5,none⟩ (show w.heap.size<=g by omega) (.slice (some ⟨b,0,none⟩) 5 cap);have l:=AI aa 5 (.slice (some ⟨b,0,none⟩) 5 cap);have aS:=(xC w5 ⟨g,5,none⟩ (.slice (some ⟨b,0,none⟩) 5 cap) t (show t≠g by omega)).trans ((x t (by omega) (by omega)).trans ak.o.c1);have bC:=(xC w5 ⟨g,5,none⟩ (.slice (some ⟨b,0,none⟩) 5 cap) L (show L≠g by omega)).trans ((x L (by omega) (by omega)).trans ak.o.c3);have b6:b≠g:=by
    rcases bv with e|e
    ·have e:K=b:=xD e
     omega
    ·omega
   have M:Jr (w5.setCell ⟨g,5,none⟩ (.slice (some ⟨b,0,none⟩) 5 cap)) (.slice (some ⟨b,0,none⟩) 5 cap) (pc2++[(ACL,f)]):=by
    have cd:w5.ownsRow w.heap.size 41 2 (.slice (some ⟨b,0,none⟩) 5 cap) (pc2++[(ACL,f)]).length ((pc2++[(ACL,f)]).flatMap clV):=aO;refine⟨some ⟨b,0,none⟩,cap,rfl,?_,.inr ⟨b,0,rfl,fun j c ca=>?_⟩⟩
    ·rcases aO.2 with⟨e,_⟩|⟨b4,b0,cz,e,_,_,cb,_⟩
     ·cases e
     ·cases e;exact cb
    ·obtain⟨b4,b0,e,bz⟩:=Cw cd (fun _=>rfl) j c ca
     cases e;have q:∀o,(w5.setCell ⟨g,5,none⟩ (.slice (some ⟨b,0,none⟩) 5 cap)).cell? ⟨b,o,none⟩=w5.cell? ⟨b,o,none⟩:=fun o=>World.cell?_of_block (a:=⟨b,o,none⟩) (xC w5 ⟨g,5,none⟩ _ b b6);rw[Nat.zero_add];exact⟨(q _).trans (bz 0 _ rfl),(q _).trans (bz 1 _ rfl)⟩
   have bP:=Aa (xZ l (xZ (ADB (cs:=pc1) (xs:=[]) (cap:=1) (by simpa using aS) (by decide)) (xZ M (xZ (ADB (cs:=pc3 y) (xs:=[]) (cap:=2) (by simpa using bC) (wQ 2)) bx))));clear l aS bC M bx bw x aO ap bv aa bn b3 ck aK J;go_wp2;go_meet;exact⟨b,cap,bP.o⟩)
 case rest=>
  obtain⟨b,cap,l,aR,k2,bB,hb⟩:=hcut;have aI:=Ac l;have cj:=Ab l;unfold rwB at aI;have aW:=Aa (show Fv wc (.slice (some ⟨g,0,none⟩) 3 3) (ABe y f)from ADX (rs:=[((bQ,⟨#[]⟩,pc1),.slice (some ⟨t,0,none⟩) 1 1),((ACN,⟨#[97]⟩,pc2++[(ACL,f)]),.slice (some ⟨b,0,none⟩) 5 cap),((ACN,⟨#[98]⟩,pc3 y),.slice (some ⟨L,0,none⟩) 2 2)]) l (fun r l=>by
   simp only[yE,List.not_mem_nil,or_false]at l;rcases l with rfl|rfl|rfl
   ·exact aR
   ·exact k2
   ·exact bB))
  have ae:=bA (wR wc.heap.size wc) (.cells #[.string ⟨#[81,117,101,114,121]⟩,.string ⟨#[]⟩,.slice (some ⟨t,0,none⟩) 1 1,.string ⟨#[80,101,114,115,111,110]⟩,.string ⟨#[97]⟩,.slice (some ⟨b,0,none⟩) 5 cap] 38);have a5:=Aa (show Fv (wc.alloc (.cells #[.string ⟨#[81,117,101,114,121]⟩,.string ⟨#[]⟩,.slice (some ⟨t,0,none⟩) 1 1,.string ⟨#[80,101,114,115,111,110]⟩,.string ⟨#[97]⟩,.slice (some ⟨b,0,none⟩) 5 cap] 38)) (.slice (some ⟨wc.heap.size,0,none⟩) 2 2) (ABj f)from ADX (rs:=[((bQ,⟨#[]⟩,pc1),.slice (some ⟨t,0,none⟩) 1 1),((ACN,⟨#[97]⟩,pc2++[(ACL,f)]),.slice (some ⟨b,0,none⟩) 5 cap)]) (wX wc _) (fun r l=>by
   simp only[yE,List.not_mem_nil,or_false]at l;rcases l with rfl|rfl
   ·exact aR.below ae
   ·exact k2.below ae))
  have aX:=Aa (aW.o.below ae);have a0:=Aa (bT hb ae);unfold bQ ACN at aI;clear l aR k2 bB hb ae aW;go_wp2;go_cut [11] (fun v11 aT=>∃ab,v11=.slice (some ⟨ab,0,none⟩) 2 2/\Fv aT (.slice (some ⟨ab,0,none⟩) 2 2) (ABj f)/\Fv aT (.slice (some ⟨g,0,none⟩) 3 3) (ABe y f)/\yG w aT)
  case first=>
   go_region;all_goals(
    go_wp2;go_meet;exact⟨_,rfl,a5.o,aX.o,a0.o.drew⟩)
  case rest=>
   obtain⟨ab,rfl,ad,n,hb⟩:=hcut;have a6:=Aa ad;have aY:=Aa n;have a3:=Aa hb;clear a5 aX a0 aI cj ad n hb;go_wp2_with fail;refine(a9.o wc).mono ?_;rintro _ w6 ⟨rfl,F⟩;have bH:=Aa (bT a3.o F);have bG:=Aa (aY.o.below F);have bI:=Aa (a6.o.below F);clear F a3 aY a6 a9;go_upto_region 6 with fail;obtain⟨Q,aL⟩:∃Q,Q=Mh id:=⟨_,rfl⟩;rw[<-aL];have al:=Aa (show Mh (idT id)=if Q=q0\/Q=AFL\/Q=AFM then ACk else Q from by
    rw[aL];unfold idT;split
    ·exact ADR
    ·rfl)
   have E:(Q.toList==[34,34])=decide (Q=q0):=BX Q _;have LA:(Q.toList==[34,97,34])=decide (Q=AFL):=BX Q _;have LB:(Q.toList==[34,98,34])=decide (Q=AFM):=BX Q _;clear aL;go_cut [64] (fun v64 aU=>v64=.bool (decide (Q=q0\/Q=AFL\/Q=AFM))/\aU=w6)
   case first=>
    by_cases G:Q=q0
    ·have b2:(Q.toList==[34,34])=true:=by rw[E];exact xM G
     have D:=Aa (show decide (Q=q0\/Q=AFL\/Q=AFM)=true from xM (.inl G));clear E LA LB G;go_wp2;go_meet;rw[D.o];exact⟨rfl,rfl⟩
    have b2:(Q.toList==[34,34])=false:=by rw[E];exact wY G
    by_cases n:Q=AFL
    ·have bo:(Q.toList==[34,97,34])=true:=by rw[LA];exact xM n
     have D:=Aa (show decide (Q=q0\/Q=AFL\/Q=AFM)=true from xM (.inr (.inl n)));clear E LA LB G n;go_wp2;go_meet;rw[D.o];exact⟨rfl,rfl⟩
    have bo:(Q.toList==[34,97,34])=false:=by rw[LA];exact wY n
    by_cases u:Q=AFM
    ·have bp:(Q.toList==[34,98,34])=true:=by rw[LB];exact xM u
     have D:=Aa (show decide (Q=q0\/Q=AFL\/Q=AFM)=true from xM (.inr (.inr u)));clear E LA LB G n u;go_wp2;go_meet;rw[D.o];exact⟨rfl,rfl⟩
    have bp:(Q.toList==[34,98,34])=false:=by rw[LB];exact wY u
    have D:=Aa (show decide (Q=q0\/Q=AFL\/Q=AFM)=false from wY (fun A=>by rcases A with A|A|A<;>contradiction));clear E LA LB G n u;go_wp2;go_meet;rw[D.o];exact⟨rfl,rfl⟩
   case rest=>
    obtain⟨rfl,ce⟩:=hcut;subst ce;clear E LA LB;obtain⟨B,u⟩:∃B,B=decide (Q=q0\/Q=AFL\/Q=AFM):=⟨_,rfl⟩;have R:=Aa (show Mh (idT id)=if B=true then ACk else Q from by rw[al.o,u];simp);rw[<-u];clear u al;generalize Mh (idT id)=QQ at*
    go_upto_if 64 with fail
    go_cut [12] (fun v12 aU=>v12=.string QQ/\aU=wc)
    case first=>
     cases B
     ·have O:=Aa (show QQ=Q from R.o)
      clear R;go_wp2;go_meet;rw[O.o];exact⟨rfl,rfl⟩
     ·have O:=Aa (show QQ=ACk from R.o)
      clear R;go_wp2;go_meet;rw[O.o];exact⟨rfl,rfl⟩
    case rest=>
     obtain⟨rfl,rfl⟩:=hcut;have cB:=bL.o;clear R;go_wp2;go_loopg [14,15,16,17,18,19,20] 5 (fun m v14 v15 v16 v17 v18 v19 v20 wr=>∃i:Nat,v14=.int .i64 i/\i<=5/\5-i<=m/\wr.heap[wc.heap.size]?=some (.cells ((mQs QQ).map Value.string).toArray 9 (0,0))/\Fv wr (.slice (some ⟨g,0,none⟩) 3 3) (ABe y f)/\Fv wr (.slice (some ⟨ab,0,none⟩) 2 2) (ABj f)/\yG w wr)
     case atStart=>exact⟨0,rfl,by omega,by omega,wX wc _,bG.o.below (bA (wR _ _) _),bI.o.below (bA (wR _ _) _),bA bH.o _⟩
     case round=>
      obtain⟨i,rfl,cD,cE,bt,n,ad,hb⟩:=hrel;have aj:=Aa bt;have av:=Aa n;have a8:=Aa ad;have I:=Aa hb;clear bt n ad hb;by_cases cc:i<5
      ·obtain⟨q,aP⟩:∃q,(mQs QQ)[i]?=some q:=⟨_,wS (show i<5 from cc)⟩
       obtain⟨z,bq,eB,br,aQ⟩:=aw.o i q aP;have cL:wr.cell? ⟨wc.heap.size,i,none⟩=some (.string q):=by
        rw[Ac aj.o,List.getElem?_toArray,xI,aP];rfl
       have af:=Ab aj.o;have aZ:=Aa (fun(d:World) (s:yG wr d)=>ACZ d (ABe y f) aC.o (ai.o.below (bT I.o s)) (some ⟨g,0,none⟩) 3 3 rfl (av.o.below s) AFN q z (by decide) aQ bq);have a7:=Aa (fun(d:World) (s:yG wr d)=>ACZ d (ABj f) bN.o (ai.o.below (bT I.o s)) (some ⟨ab,0,none⟩) 2 2 rfl (a8.o.below s) AFN q z (by decide) aQ br);have a4:=Aa (fun(d:World) (s:yG wr d) (a:Option Addr) (c:Nat) (A:Fv d (.slice a 3 c) (ABn bD))=>ACZ d (ABn bD) bM.o (ai.o.below (bT I.o s)) a 3 c rfl A AFN q z (by decide) aQ eB);clear aP bq eB br aw;go_wp2_with fail;refine(vJ wr q).mono ?_;rintro _ w7 ⟨rfl,Y⟩;have au:=Aa Y;clear Y;go_wp2_with fail;refine(aZ.o w7 au.o).mono ?_;rintro _ w8 ⟨rfl,Z⟩;have N:=Aa (bT au.o Z);clear Z au aZ;have cL:=Ah N.o cL;have af:=xA af N.o.size;go_wp2_with fail;have S:=Aa (fun V (aM:yG w8 V)=>xZ aM (xZ ((aM.cell (p:=⟨wc.heap.size,i,none⟩) af).trans cL) (xA af aM.size)));go_region_held3 (fun V=>yG w8 V/\V.cell? ⟨wc.heap.size,i,none⟩=some (.string q)/\wc.heap.size<V.heap.size)
        (first|exact S.o _ (wR _ _).drew|exact S.o _ (bT bX am)|exact S.o _ (bT bY bh)|exact S.o _ (bT bl bW))
        (first|(go_at_call 11;obtain⟨bX, -⟩:= ‹yG w8 _/\_›;refine(bb.o _).mono ?_;rintro _ w9 ⟨bV,bZ,rfl,v,am⟩;have ba:=Aa v;clear v)|(go_at_call 13;obtain⟨bY, -⟩:= ‹yG w8 _/\_›;refine(vJ _ q).mono ?_;rintro _ w10 ⟨rfl,bh⟩)|(go_at_call 10;obtain⟨bl, -⟩:= ‹yG w8 _/\_›;refine(a4.o _ (bT N.o bl) bV bZ (ba.o.below bh)).mono ?_;rintro _ w11 ⟨rfl,bW⟩))
       all_goals(
        obtain⟨bm,b1,cl⟩:= ‹yG w8 _/\_›;have aV:=Aa (bT N.o bm);clear bm ba a4 S;go_wp2_with fail;refine(vJ w11 q).mono ?_;rintro _ w12 ⟨rfl,bi⟩;have ar:=Aa (bT aV.o bi);clear bi;go_wp2_with fail;refine(a7.o w12 ar.o).mono ?_;rintro _ w13 ⟨rfl,bj⟩;have ah:=Aa (bT ar.o bj);have aN:(z.toList==z.toList)=true:=by simp
        clear bj ar aV a7 b1 cl cL af N;go_wp2;go_roundg (5-(i+1))
        case measure=>omega
        case rel=>exact⟨i+1,by go_num,by omega,wQ _,(ah.o.block _ (Ab aj.o)).trans aj.o,av.o.below ah.o,a8.o.below ah.o,bT I.o ah.o⟩)
      ·have b9:i=5:=by omega
       subst b9;obtain⟨ag,bs⟩:∃aq,aq=ml1:=⟨_,rfl⟩;obtain⟨C,ao⟩:∃aq,aq=ml4:=⟨_,rfl⟩;have O:=Aa (show(C.toList==ml4.toList)=true from by rw[ao];simp);rw[<-bs]at ax aA;rw[<-ao]at ay az P;have aS:(ag.toList==ag.toList)=true:=by simp
       have n4:(C.toList==C.toList)=true:=by simp
       have cG:(C.toList==[123,34,101,114,114,111,114,115,34,58,91,123,34,109,101,115,115,97,103,101,34,58,34,115,101,108,101,99,116,105,111,110,34,125,93,125])=true:=by rw[ao,Lib.toList_data];kernel_rfl
       have cF:(aB.toList==C.toList)=false:=by rw[Cy];exact wY P.o.2
       have H:=Aa (fun(d:World) (s:yG wr d) (role q z:yF) (b5:role.size<=2000000) (M:q.size<=2000000) (A:Kc La (ABe y f) role bE q bE 5000=(z,true))=>ACZ d (ABe y f) aC.o (ai.o.below (bT I.o s)) (some ⟨g,0,none⟩) 3 3 rfl (av.o.below s) role q z b5 M A);have bu:(idQ QQ).size<=2000000:=by
        unfold idQ;simp only[ByteArray.size_append];have bo:(⟨#[123,109,101,40,105,100,58]⟩:yF).size=7:=rfl;have bp:(⟨#[41,123,110,97,109,101,125,125]⟩:yF).size=8:=rfl;omega
       have al:=Aa bu;clear bs ao O bu;go_wp2_with fail;refine(vJ wr _).mono ?_;rintro _ cm ⟨rfl,T⟩;have aD:=Aa T;clear T;go_wp2_with fail;refine(H.o cm aD.o AFN mq1 ag (by decide) (by decide) ax.o).mono ?_;rintro _ cn ⟨rfl,U⟩;have bc:=Aa (bT aD.o U);clear U aD;go_wp2_with fail;refine(vJ cn _).mono ?_;rintro _ co ⟨rfl,W⟩;have aE:=Aa (bT bc.o W);clear W bc;go_wp2_with fail;refine(H.o co aE.o AFN (idQ QQ) ag (by decide) al.o aA.o).mono ?_;rintro _ cp ⟨rfl,X⟩;have bd:=Aa (bT aE.o X);clear X aE;go_wp2_with fail;refine(vJ cp _).mono ?_;rintro _ cq ⟨rfl,bk⟩;have aF:=Aa (bT bd.o bk);clear bk bd;go_wp2_with fail;refine(H.o cq aF.o AFN mq5 C (by decide) (by decide) ay.o).mono ?_;rintro _ cr ⟨rfl,F⟩;have bf:=Aa (bT aF.o F);clear F aF;go_wp2_with fail;refine(vJ cr _).mono ?_;rintro _ ct ⟨rfl,Y⟩;have aG:=Aa (bT bf.o Y);clear Y bf;go_wp2_with fail;refine(H.o ct aG.o AFN mq6 C (by decide) (by decide) az.o).mono ?_;rintro _ cu ⟨rfl,Z⟩;have bg:=Aa (bT aG.o Z);clear Z aG;go_wp2_with fail;refine(bU cu _).mono ?_;rintro _ cv ⟨rfl,am⟩;have aH:=Aa (bT bg.o am);clear am bg;go_wp2_with fail;refine(H.o cv aH.o AFK mq5 aB (by decide) (by decide) P.o.1).mono ?_;rintro _ cM ⟨rfl,T⟩;have bR:=Aa (bT I.o (bT aH.o T));clear T aH H;go_wp2;go_ret;exact⟨rfl,bR.o⟩
end Go.Proofs.YtogdodlibkckkaaGreatDoor
