import Derived.Test.YtadneapobijejaaGreatDoorC40
import Derived.Test.YtadneapobijejaaGreatDoorC34
import Derived.Test.YtadneapobijejaaGreatDoorC38
import Derived.BigQuiet
import Derived.Deep.RegionHeld3
namespace Go.Proofs.YtadneapobijejaaGreatDoor
set_option maxHeartbeats 20000000
set_option maxRecDepth 100000
open Go.RowKit Tryz
open Go.Maps Tryz
theorem CO.fr{X Y w0:World}{B0 B1 Cb S gO ko Mb Sb:Nat}{pp:List Nat}{vF:Value}{L:List CX}{seen:List Bool}(h:CO X w0 B0 B1 Cb S gO ko Mb Sb pp vF L seen)(hs:List Bool)(hb:Y.heap[Sb]?=some (.cells (Bp hs).toArray 4 (0,0)))(hY:X.grownBy Y (some Sb)):CO Y w0 B0 B1 Cb S gO ko Mb Sb pp vF L hs:=by
 obtain⟨D,hm,hpm⟩:=h.m;have s4:∀(k:Nat) (cs:Array Value) (t:TypeId) (fr:Nat×Nat),X.heap[k]?=some (.cells cs t fr)->t≠4->Y.heap[k]?=some (.cells cs t fr):=fun k cs t fr hk ht=>(hY.block k (Ab hk) (fun e=>by have e:=tY e;subst e;rw[h.s]at hk;cases hk;exact ht rfl)).trans hk;exact⟨s4 Cb _ _ _ h.b (by decide),Ir h.f (fun k cur _ hk=>s4 k _ _ _ hk (by decide)),h.sel,fun i y hy=>Ir (h.own i y hy) (fun k cur _ hk=>s4 k _ _ _ hk (by decide)),h.ap,⟨D,hm.kept hY (fun e=>Kc hm h.s (tY e).symm),hpm⟩,h.nd,hb,h.lc,h.lm,h.ls⟩
section
variable {w0:World} {S:Nat} {vR vO vI vU vN:Value} {LR:List (At×Value)} {LO:List AV} {LI:List (As×Value)} {LU:List (Au×Value)} {names:List vD} {B0 B1 Cb gO ko Mb Sb:Nat} {pp:List Nat} {parts:List Ai}
theorem ZO(hS:SV w0 S vR vO vI vU vN LR LO LI LU names)(hg:∃c,vO=.slice (some ⟨gO,0,none⟩) LO.length c)(hP:Bh w0 B0 pp 0 parts)(hn:pp.length=parts.length)(hpi:BM parts)(hsl:∀P∈parts,P.sels.length<=1000)(hks:∀P∈parts,∀x∈P.sels,x.key.size<=4000){Z:Nat->Prop}(hZ:∀i,Z i->∀x∈(Ax parts i).sels,x.kind≠0->∃j,x.part=some j/\Z j)(ox:AV)(hox:LO[ko]?=some ox)(hB1:w0.heap.size<=B1):
 ∀(f:Nat) (w:World) (i k:Nat) (vF:Value) (L:List CX) (seen:List Bool),vE w0 w->B1<=w.heap.size->pp[i]?=some k->Z i->CO w w0 B0 B1 Cb S gO (ko*4) Mb Sb pp vF L seen->seen.length=pp.length->uns seen+1<=f->wt (L.map Prod.fst)+2000*uns seen<=10000000->
 Calls prog 128 #[.pointer (some ⟨Cb,0,none⟩),.pointer (some ⟨k,0,none⟩)] w fun e w'=>e=.returned (.tuple #[])/\Below B1 w w'/\∃vF' L',CO w' w0 B0 B1 Cb S gO (ko*4) Mb Sb pp vF' L' (Cw parts (AU ox.1 (LU.map Prod.fst)) f i (L.map Prod.fst,seen)).2/\L'.map Prod.fst=(Cw parts (AU ox.1 (LU.map Prod.fst)) f i (L.map Prod.fst,seen)).1:=by
 have HOF:=Aa (fun W (hW:vE w0 W) typ=>RE (hS.below hW) ko ox hox typ gO hg);generalize AU ox.1 (LU.map Prod.fst)=of at*;clear hS hg hox;intro f
 induction f with
 |zero=>intro w i k vF L seen _ _ _ _ _ _ hz;omega
 |succ f ih=>
 intro w i k vF L seen hb0 hBw hk hZi hC hst hz hwt;have hil:i<pp.length:=Fu hk;obtain⟨P,hPi⟩:∃P,parts[i]?=some P:=⟨_,tN (by omega)⟩;have hpa:=hP i P hPi;rw[Nat.zero_add]at hpa;obtain⟨a,cap,wH,hsl1,hsel⟩:=hpa.selAt hk;have hkb:=(hb0.block _ (Ab wH)).trans wH;obtain⟨b,hv0⟩:∃b,seen[i]?=some b:=⟨_,tN (by omega)⟩;have hgd:seen.getD i false=b:=by simp[List.getD,hv0]
 have hpd:Ax parts i=P:=by simp[Ax,List.getD,hPi]
 have HQ:=Aa (show Cw parts of (f+1) i (L.map Prod.fst,seen)=(if seen.getD i false=true then(L.map Prod.fst,seen)else Ct parts of (Cw parts of f) (Ax parts i).sels (L.map Prod.fst,seen.set i true))from by rw[Cw]);rw[hgd,hpd]at HQ;generalize Cw parts of (f+1) i (L.map Prod.fst,seen)=FF at*;have ck:=Ac hkb;have lk:=Ab hkb;have cC:=Ac hC.b;have lC:=Ab hC.b;have cS:w.cell? ⟨Sb,i,none⟩=some (.bool b):=(Ac hC.s i).trans (ML seen i b hv0);have fS:=Am hC.s;have lS:=Ab hC.s;have hkS:¬k=Sb:=DW hkb hC.s (by decide);have hCS:¬Cb=Sb:=DW hC.b hC.s (by decide);have hiI:(i:Int)<pp.length:=by omega
 have hCo:=Aa hC;have HB0:=Aa hb0;cases b
 ·rw[uB (by simp)]at HQ
  have hSX:(w.setCell ⟨Sb,i,none⟩ (.bool true)).heap[Sb]?=some (.cells (Bp (seen.set i true)).toArray 4 (0,0)):=by rw[<-NY];exact AI hC.s i _
  have HC1:=Aa (show CO (w.setCell ⟨Sb,i,none⟩ (.bool true)).drew.drew w0 B0 B1 Cb S gO (ko*4) Mb Sb pp vF L (seen.set i true)from(hC.fr (seen.set i true) hSX (QN w Sb i _)).below (tM _ _).drew.drew);have hun1:=Kj seen i hv0;have hzf:uns (seen.set i true)+1<=f:=by omega
  have hlen1:(seen.set i true).length=pp.length:=by simp[hst]
  have hSb:=hC.ls;have HB1:=Aa (show Below B1 w (w.setCell ⟨Sb,i,none⟩ (.bool true)).drew.drew from((tM _ _).setCell hSb _).drew.drew);have hwt1:wt (L.map Prod.fst)+2000*uns (seen.set i true)+2*P.sels.length<=10000000:=by omega
  have HIH:=Aa ih;have xT:=Aa wH;have wU:=Aa hsel;have hPl:=Aa (fun x (hx:x∈P.sels) j (e:x.part=some j)=>(show j<parts.length from hpi.d i x (by rw[hpd];exact hx) j e));have hZl:=Aa (fun x (hx:x∈P.sels) (e:x.kind≠0)=>hZ i hZi x (by rw[hpd];exact hx) e);have hKl:=Aa (fun x (hx:x∈P.sels)=>hks P (tO hPi) x hx);have HPT:=Aa hP;have HPD:=Aa (fun j Pj (hj:parts[j]?=some Pj)=>(show Ax parts j=Pj from by simp[Ax,List.getD,hj]));have HBD:=Aa (Od (of:=of) hpi hsl f);generalize hst1:seen.set i true=st1 at*;obtain⟨RES,vH⟩:∃RES,Hi (RES=Ct parts of (Cw parts of f) P.sels (L.map Prod.fst,st1)):=⟨_,Aa rfl⟩;rw[<-vH.o]at HQ;have HN:=Aa hn;clear hst1 hsel hpa hkb wH hPi hgd hpd hv0 ih hb0 hP hst hz hpi hn hC hSX hsl hks hZ hZi hwt;go_enter func128,ntmps128;go_wp2_with fail;go_region;go_wp2_with fail;go_region;generalize (w.setCell ⟨Sb,i,none⟩ (.bool true)).drew.drew=W1 at*;have hkB:k<B1:=tV (Ab xT.o) hB1;have hk1:W1.heap[k]?=some (.cells #[.string P.typ,.int .i64 i,.slice a P.sels.length cap] 171 (0,0)):=(HB1.o.block k hkB).trans ((HB0.o.block k (Ab xT.o)).trans xT.o);have ck1:=Ac hk1;have lk1:=Ab hk1;clear ck cS fS hk1 cC lC;go_wp2_with fail;go_loopg [4,5,30] P.sels.length (fun m v4 v5 v30 wr=>∃(t:Nat) (vF':Value) (L':List CX) (st':List Bool),v30=.int .i64 t/\t<=P.sels.length/\P.sels.length-t<=m/\CO wr w0 B0 B1 Cb S gO (ko*4) Mb Sb pp vF' L' st'/\st'.length=pp.length/\uns st'<=uns st1/\wt (L'.map Prod.fst)+2000*uns st'+2*(P.sels.length-t)<=10000000/\Below B1 w wr/\RES=Ct parts of (Cw parts of f) (P.sels.drop t) (L'.map Prod.fst,st'))
  case atStart=>exact⟨0,vF,L,st1,rfl,tU _,tL _,HC1.o,hlen1,tL _,hwt1,HB1.o,vH.o⟩
  case round=>
   obtain⟨t,vF',L',st',rfl,htl,htm,hC',hlen',hun',hwt',hb',hrel⟩:=hrel;have HM:=Aa hrel;have HC':=Aa hC';have HB':=Aa hb';have hbz:=hb'.size;have xJ:vE w0 wr:=HB0.o.trans (hb'.mono hB1);have xL:=Aa xJ;have hkr:wr.heap[k]?=some (.cells #[.string P.typ,.int .i64 i,.slice a P.sels.length cap] 171 (0,0)):=(hb'.block k hkB).trans ((HB0.o.block k (Ab xT.o)).trans xT.o);have ckr:=Ac hkr;have lkr:=Ab hkr;by_cases hlt:t<P.sels.length
   ·have hx:=tN hlt
    have hdr:P.sels.drop t=P.sels[t]::P.sels.drop (t+1):=uT hlt;have hmem:P.sels[t]∈P.sels:=List.getElem_mem hlt;generalize P.sels[t]=x at hx hdr hmem;obtain⟨g,hag,hgl,hsa⟩:=wU.o t x hx;subst hag;have HLO:=Aa (hH (hsa.below xJ));obtain⟨aA,cA,aC,cC,hc,hok⟩:=(hsa.below xJ).ex;have x0:wr.cell? ⟨g,t*6,none⟩=some (.int .i64 x.kind):=by simpa using hc 0 _ rfl
    have X5:=Aa (show wr.cell? ⟨g,t*6+5,none⟩=some (AM pp x.part)from hc 5 _ rfl);have hlg:g<wr.heap.size:=tR wr _ x0;have hbd:=hPl.o x hmem;have htI:(t:Int)<P.sels.length:=by omega
    have yG:=Aa (fun W (hW:vE wr W)=>YQ (xL.o.trans (hW.mono xL.o.size)) hB1 (tQ (by omega) hW.size) (HC'.o.below hW) hsa (hKl.o x hmem) (show wt (L'.map Prod.fst)<=10000000 by omega));rw[hdr]at HM;clear hc hx hdr hrel hb' hok xJ hkr hC';cases lo:LK x
    ·rw[lo]at HLO
     by_cases hk0:x.kind=0
     ·have HE:=Aa (show RES=Ct parts of (Cw parts of f) (P.sels.drop (t+1)) (CU x (L'.map Prod.fst),st')from by rw[HM.o,Ct,lo,uB (by simp),uC hk0])
      have hwa:=Sy x (L'.map Prod.fst);rw[hk0]at x0;have hx0:wr.cell? ⟨g,t*6,none⟩=some (.int .i64 0):=x0;clear lo hk0 HM hbd x0;generalize CU x (L'.map Prod.fst)=AD at*;go_wp2_with fail;refine HLO.o.mono ?_;rintro _ w2 ⟨rfl,b2⟩;have y0:=Ah b2 hx0;have ly:=tR w2 _ y0;have HB2:=Aa b2;have HA2:=Aa (yG.o w2 b2);clear b2 hx0;go_wp2_with fail;refine HA2.o.mono ?_;rintro _ w3 ⟨rfl,b3,vF3,L3,hC3,hL3⟩;have HC3:=Aa hC3;have HB3:=Aa (show Below B1 w w3 from(HB'.o.trans (HB2.o.mono (by omega))).trans b3);have HL3:=Aa hL3;clear b3 hC3 hL3;go_wp2_with fail;go_roundg (P.sels.length-(t+1))
      case measure=>omega
      case rel=>exact⟨t+1,vF3,L3,st',by go_num,by omega,tL _,HC3.o,hlen',hun',by rw[HL3.o];omega,HB3.o,by rw[HL3.o];exact HE.o⟩
     ·have T0:((x.kind:Int)==0)=false:=by simp;omega
      obtain⟨j,ep,hZj⟩:=hZl.o x hmem hk0;have hjl:=hbd j ep;obtain⟨k',hk'⟩:∃k',pp[j]?=some k':=⟨_,tN (by have:=HN.o;omega)⟩;have x5:wr.cell? ⟨g,t*6+5,none⟩=some (.pointer (some ⟨k',0,none⟩)):=by have:=X5.o;rw[ep]at this;rw[this];simp[AM,hk']
      obtain⟨Pj,hPj⟩:∃Pj,parts[j]?=some Pj:=⟨_,tN hjl⟩;have hpj:=HPT.o j Pj hPj;rw[Nat.zero_add]at hpj;obtain⟨a',cap',hkj0, -, -⟩:=hpj.selAt hk';obtain⟨jj,hjj⟩:∃jj:Nat,jj=j:=⟨j,rfl⟩;rw[<-hjj]at hkj0;have hkj:=(xL.o.block _ (Ab hkj0)).trans hkj0;have HKJ:=Aa hkj;have HOC:=Aa (fun W (hW:vE wr W)=>HOF.o W (xL.o.trans (hW.mono xL.o.size)) Pj.typ);have HREC:=Aa (fun W (hW:vE wr W)=>HIH.o W j k' vF' L' st' (xL.o.trans (hW.mono xL.o.size)) (tQ (by omega) hW.size) hk' hZj (HC'.o.below hW) hlen' (by omega) (by omega));have HBJ:=Aa (HBD.o j (L'.map Prod.fst,st') hjl (by rw[hlen'];exact HN.o));have HM2:=Aa (show RES=if ((Pj.typ.toList==[])||of Pj.typ)=true then Ct parts of (Cw parts of f) (P.sels.drop (t+1)) (Cw parts of f j (L'.map Prod.fst,st'))else Ct parts of (Cw parts of f) (P.sels.drop (t+1)) (L'.map Prod.fst,st')from by
       rw[HM.o,Ct,lo,uB (by simp),uB hk0,ep];simp only[];rw[HPD.o j Pj hPj,show(Pj.typ.toList==[])=decide (Pj.typ=bE)from by rw[BN Pj.typ];rfl])
      generalize Cw parts of f j (L'.map Prod.fst,st')=R1 at*;generalize of Pj.typ=ob at*;have HCC:=Aa HC'.o.b;clear lo hk0 HM hbd hk' ep hpj hPj hkj0 hkj X5 HOF yG hjj;go_wp2_with fail;refine HLO.o.mono ?_;rintro _ w2 ⟨rfl,b2⟩;have HB2:=Aa b2;have y0:=Ah b2 x0;have y5:=Ah b2 x5;have ly:=tR w2 _ y0;have hkj2:=(b2.block _ (Ab HKJ.o)).trans HKJ.o;have cj:=Ac hkj2;have lj:=Ab hkj2;have hcc2:=(b2.block _ (Ab HCC.o)).trans HCC.o;have cc:=Ac hcc2;have lc:=Ab hcc2;have HREC2:=Aa (fun W (hW:vE w2 W)=>HREC.o W (bT b2 hW));have HOC2:=Aa (fun W (hW:vE w2 W)=>HOC.o W (bT b2 hW));have HCW:=Aa (HC'.o.below b2);have HB2':=Aa (show Below B1 w w2 from HB'.o.trans (b2.mono (by omega)));have hz2:=b2.size;clear b2 HREC HOC HLO x0 x5 HC' HB' ckr;cases eT:(Pj.typ.toList==[])
      ·rw[eT]at HM2
       have HM3:=Aa (show RES=if ob=true then Ct parts of (Cw parts of f) (P.sels.drop (t+1)) R1 else Ct parts of (Cw parts of f) (P.sels.drop (t+1)) (L'.map Prod.fst,st')from HM2.o);have HSS:=Aa (fun V' (hV:vE w2 V')=>uV hV (uV (Ac ((hV.block _ lc).trans hcc2)) (uV (Ac ((hV.block _ lj).trans hkj2)) (uV (Ah hV y5) (uV (tV lc hV.size) (tV lj hV.size))))));go_wp2_with fail;go_region_held3 (fun V'=>vE w2 V'/\(∀j,V'.cell? ⟨Cb,j,none⟩=(#[.pointer (some ⟨S,0,none⟩),.pointer (some ⟨gO,ko*4,none⟩),vF',.map (some Mb),.slice (some ⟨Sb,0,none⟩) pp.length pp.length]:Array Value)[j]?)/\(∀j,V'.cell? ⟨k',j,none⟩=(#[.string Pj.typ,.int .i64 jj,.slice a' Pj.sels.length cap']:Array Value)[j]?)/\V'.cell? ⟨g,t*6+5,none⟩=some (.pointer (some ⟨k',0,none⟩))/\Cb<V'.heap.size/\k'<V'.heap.size)
        (first|exact HSS.o _ (tM _ _).drew|exact HSS.o _ (bT bh b3))
        (first|(go_at_call 181;obtain⟨bh, -⟩:= ‹vE w2 _/\_›;refine(HOC2.o _ bh).mono ?_;rintro _ w3 ⟨rfl,b3⟩))
       all_goals(
        obtain⟨bh,z1,z2,z3,z4,z5⟩:= ‹vE w2 _/\_›;cases ob
        ·have HM4:=Aa (show RES=Ct parts of (Cw parts of f) (P.sels.drop (t+1)) (L'.map Prod.fst,st')from HM3.o)
         have HB3:=Aa (show Below B1 w _ from HB2'.o.trans (bh.mono (by omega)));have HC3:=Aa (HCW.o.below bh);clear bh;go_wp2_with fail;go_roundg (P.sels.length-(t+1))
         case measure=>omega
         case rel=>exact⟨t+1,vF',L',st',by go_num,by omega,tL _,HC3.o,hlen',hun',by omega,HB3.o,HM4.o⟩
        ·have HM4:=Aa (show RES=Ct parts of (Cw parts of f) (P.sels.drop (t+1)) R1 from HM3.o)
         have HBH:=Aa bh;clear bh;go_wp2_with fail;refine(HREC2.o _ HBH.o).mono ?_;rintro _ w4 ⟨rfl,b4,vF4,L4,hC4,hL4⟩;have HC4:=Aa hC4;have HL4:=Aa hL4;have HB4:=Aa (show Below B1 w w4 from(HB2'.o.trans (Below.mono HBH.o (by omega))).trans b4);clear b4 hC4 hL4;go_wp2_with fail;go_roundg (P.sels.length-(t+1))
         case measure=>omega
         case rel=>exact⟨t+1,vF4,L4,R1.2,by go_num,by omega,tL _,HC4.o,by have:=HN.o;have:=HBJ.o.1;omega,by have:=HBJ.o.2.1;omega,by have:=HBJ.o.2.2;rw[HL4.o];omega,HB4.o,by rw[HL4.o];exact HM4.o⟩)
      ·rw[eT]at HM2
       have HM3:=Aa (show RES=Ct parts of (Cw parts of f) (P.sels.drop (t+1)) R1 from HM2.o);have HM4:=HM3;go_wp2_with fail;go_quiet (fail);have y5q:(w2.drewN nq).cell? ⟨g,t*6+5,none⟩=some (.pointer (some ⟨k',0,none⟩)):=Ah (below_drewN (tM _ _) nq) y5;have lyq:g<(w2.drewN nq).heap.size:=tR _ _ y5q;have HBH:=Aa (below_drewN (tM w2.heap.size w2) nq);generalize w2.drewN nq=Wq at*;go_wp2_with fail;refine(HREC2.o _ HBH.o).mono ?_;rintro _ w4 ⟨rfl,b4,vF4,L4,hC4,hL4⟩;have HC4:=Aa hC4;have HL4:=Aa hL4;have HB4:=Aa (show Below B1 w w4 from(HB2'.o.trans (Below.mono HBH.o (by omega))).trans b4);clear b4 hC4 hL4;go_wp2_with fail;go_roundg (P.sels.length-(t+1))
       case measure=>omega
       case rel=>exact⟨t+1,vF4,L4,R1.2,by go_num,by omega,tL _,HC4.o,by have:=HN.o;have:=HBJ.o.1;omega,by have:=HBJ.o.2.1;omega,by have:=HBJ.o.2.2;rw[HL4.o];omega,HB4.o,by rw[HL4.o];exact HM4.o⟩
    ·rw[lo]at HLO
     have HE:=Aa (show RES=Ct parts of (Cw parts of f) (P.sels.drop (t+1)) (L'.map Prod.fst,st')from by rw[HM.o,Ct,lo,uC rfl]);clear lo HM hbd yG;go_wp2_with fail;refine HLO.o.mono ?_;rintro _ w2 ⟨rfl,b2⟩;have HB2:=Aa (show Below B1 w w2 from HB'.o.trans (b2.mono (by omega)));have HC2:=Aa (HC'.o.below b2);clear b2;go_wp2_with fail;go_roundg (P.sels.length-(t+1))
     case measure=>omega
     case rel=>exact⟨t+1,vF',L',st',by go_num,by omega,tL _,HC2.o,hlen',hun',by omega,HB2.o,HE.o⟩
   ·have ht:t=P.sels.length:=by omega
    subst ht;have HE:=Aa (show FF=(L'.map Prod.fst,st')from by rw[HQ.o,HM.o,List.drop_length];rfl);clear hb' HM hrel xJ hC' hkr;go_wp2_with fail;go_end0;rw[HE.o];exact⟨rfl,HB'.o,vF',L',HC'.o,rfl⟩
 ·rw[uC rfl]at HQ
  have HQ2:=Aa (show FF=(L.map Prod.fst,seen)from HQ.o);clear hC hsel hpa hkb wH;go_enter func128,ntmps128;go_wp2_with fail;go_region;go_wp2_with fail;refine bodyPost_ret (v:=.tuple #[]) (by simp[results,go_sem]) rfl ?_;rw[HQ2.o];exact⟨rfl,(tM _ _).drew,vF,L,hCo.o.below (tM _ _).drew,rfl⟩
end
structure Ko(X w0:World)(B0 B1:Nat)(pp:List Nat)(vF:Value)(L:List CX):Prop where
 f:X.ownsRow B1 209 2 vF L.length (L.flatMap JS)
 sel:∀y∈L,ET w0 B0 pp y.2.1.1 y.2.1.2 y.1.1
 own:∀(i:Nat) (y:CX),L[i]?=some y->X.ownsRow B1 89 1 y.2.2 y.1.2.length (Bw pp y.1.2)
theorem Ko.ft{X Y w0:World}{B B0 B1:Nat}{pp:List Nat}{vF:Value}{L:List CX}(h:Ko X w0 B0 B1 pp vF L)(hf:FT B kM X Y):Ko Y w0 B0 B1 pp vF L:=⟨hf.own h.f (by decide),h.sel,fun i y hy=>hf.own (h.own i y hy) (by decide)⟩
theorem CO.start{X w0:World}{B0 B1 Cb S gO ko Mb Sb:Nat}{pp:List Nat}(hC:X.heap[Cb]?=some (.cells #[.pointer (some ⟨S,0,none⟩),.pointer (some ⟨gO,ko,none⟩),.slice none 0 0,.map (some Mb),.slice (some ⟨Sb,0,none⟩) pp.length pp.length] 264 (0,0)))(hm:BP X Mb 0 (.map []))(hS:X.heap[Sb]?=some (.cells (madeCells #[.bool false] pp.length) 4 (0,0)))(h1:B1<=Cb)(h2:B1<=Mb)(h3:B1<=Sb):CO X w0 B0 B1 Cb S gO ko Mb Sb pp (.slice none 0 0) [] (List.replicate pp.length false):=
 ⟨hC,uA _ _ _ _,fun _ h=>by simp at h,fun i y h=>by simp at h,fun i j a b _ h=>by simp at h,⟨.map [],hm,PM.nil⟩,List.nodup_nil,by rw[<-Nk];exact hS,h1,h2,h3⟩
theorem sM:∀l:List Bool,uns l<=l.length:=fun l=>by unfold uns;exact List.countP_le_length ..
theorem mP(w:World)(a c:Obj):BP (((w.alloc a).alloc (.map #[] 0)).alloc c) (w.heap.size+1) 0 (.map []):=by
 have h:BP ((w.alloc a).alloc (.map #[] 0)) (w.alloc a).heap.size 0 (.map []):=World.ownsMap_made (w.alloc a) _ _ _;have e:(w.alloc a).heap.size=w.heap.size+1:=by simp
 rw[e]at h;exact h.alloc c
section
variable {w0:World} {S:Nat} {vR vO vI vU vN:Value} {LR:List (At×Value)} {LO:List AV} {LI:List (As×Value)} {LU:List (Au×Value)} {names:List vD} {B0 gO ko:Nat} {pp:List Nat} {parts:List Ai}
theorem aD(hS:SV w0 S vR vO vI vU vN LR LO LI LU names)(hg:∃c,vO=.slice (some ⟨gO,0,none⟩) LO.length c)(hP:Bh w0 B0 pp 0 parts)(hn:pp.length=parts.length)(hpi:BM parts)(hsl:∀P∈parts,P.sels.length<=1000)(hks:∀P∈parts,∀x∈P.sels,x.key.size<=4000)(hpl:parts.length<=2000){Z:Nat->Prop}(hZ:∀i,Z i->∀x∈(Ax parts i).sels,x.kind≠0->∃j,x.part=some j/\Z j)(ox:AV)(hox:LO[ko]?=some ox)
 {w:World} (hb0:vE w0 w) {M T:Nat} {v1 v3 v4 v5 v6 vL vm:Value} (hM:w.heap[M]?=some (.cells #[.pointer (some ⟨T,0,none⟩),v1,.int .i64 pp.length,v3,v4,v5,v6] 86 (0,0))) (hT:w0.heap[T]?=some (.cells #[vL,.pointer (some ⟨S,0,none⟩),vm] 75 (0,0))) {vps:Value} {ps:List Nat} {B2:Nat} (hps:w.ownsRow B2 89 1 vps ps.length (Bw pp ps)) (hpz:∀p∈ps,p<parts.length/\Z p) (hpsl:ps.length<=10000000):
 Calls prog 84 #[.pointer (some ⟨M,0,none⟩),.pointer (some ⟨gO,ko*4,none⟩),vps] w fun e w'=>∃vF L,e=.returned vF/\vE w w'/\Ko w' w0 B0 w.heap.size pp vF L/\L.map Prod.fst=Dt parts (AU ox.1 (LU.map Prod.fst)) ps:=by
 have HCL:=Aa (fun(Cb Mb Sb:Nat)=>ZO (B1:=w.heap.size) (Cb:=Cb) (Mb:=Mb) (Sb:=Sb) hS hg hP hn hpi hsl hks hZ ox hox hb0.size (parts.length+1));have HBD:=Aa (Od (of:=AU ox.1 (LU.map Prod.fst)) hpi hsl (parts.length+1));have HQ:=Aa (show Dt parts (AU ox.1 (LU.map Prod.fst)) ps=(FK parts (AU ox.1 (LU.map Prod.fst)) ps ([],List.replicate pp.length false)).1 from by unfold Dt;rw[hn]);generalize Dt parts (AU ox.1 (LU.map Prod.fst)) ps=FF at*;generalize AU ox.1 (LU.map Prod.fst)=of at*;have cM:=Ac hM;have lM:=Ab hM;have hT1:=(hb0.block _ (Ab hT)).trans hT;have cT:=Ac hT1;have lT:=Ab hT1;have hmk:=run_make_row' (P:=prog) 124 4 (.bool false) 1 underlying124 info4 rfl .i64 .i64 pp.length (by omega) (by omega);have hmm:=VE;have HB0:=Aa hb0;have HPS:=Aa hps;have HPZ:=Aa hpz;have HN:=Aa hn;have hppl:pp.length<=2000:=by omega
 obtain⟨aP,cP,rfl⟩:=An hps;clear hS hg hP hpi hsl hks hZ hox hM hT hT1 hb0 hps hpz hn;go_enter func84,ntmps84;go_wp2_with fail;go_cut [7] (fun v7 wc=>∃Cb Mb Sb,v7=.pointer (some ⟨Cb,0,none⟩)/\vE w wc/\CO wc w0 B0 w.heap.size Cb S gO (ko*4) Mb Sb pp (.slice none 0 0) [] (List.replicate pp.length false))
 case first=>
  go_region;all_goals(
   go_wp2_with fail;go_meet;first
    |exact⟨w.heap.size+1+1,w.heap.size,w.heap.size+1,rfl,(bA (bA (bA (tM _ _) _) _) _).drew,(CO.start (Hg w _ _ _).2.2 (((World.ownsMap_made w _ _ _).alloc _).alloc _) (Hg w _ _ _).2.1 (by omega) (tL _) (by omega)).below (tM _ _).drew⟩
    |exact⟨w.heap.size+1+1,w.heap.size+1,w.heap.size,rfl,(bA (bA (bA (tM _ _) _) _) _).drew,(CO.start (Hg w _ _ _).2.2 (mP w _ _) (Hg w _ _ _).1 (by omega) (by omega) (tL _)).below (tM _ _).drew⟩)
 case rest=>
  obtain⟨Cb,Mb,Sb,rfl,hb1,hC1⟩:=hcut;obtain⟨RES,vH⟩:∃RES,Hi (RES=FK parts of ps ([],List.replicate pp.length false)):=⟨_,Aa rfl⟩;rw[<-vH.o]at HQ;have HB1:=Aa hb1;have HC1:=Aa hC1;clear hb1 hC1 cM lM cT lT;go_wp2_with fail;go_loopg [9,28] ps.length (fun m v9 v28 wr=>∃(t:Nat) (vF':Value) (L':List CX) (st':List Bool),v28=.int .i64 t/\t<=ps.length/\ps.length-t<=m/\CO wr w0 B0 w.heap.size Cb S gO (ko*4) Mb Sb pp vF' L' st'/\st'.length=pp.length/\wt (L'.map Prod.fst)+2000*uns st'<=10000000/\vE w wr/\RES=FK parts of (ps.drop t) (L'.map Prod.fst,st'))
  case atStart=>exact⟨0,_,[],_,rfl,tU _,tL _,HC1.o,by simp,by rw[Ja];show 0+_<=_;omega,HB1.o,vH.o⟩
  case round=>
   obtain⟨t,vF',L',st',rfl,htl,htm,hC',hlen',hwt',hb',hrel⟩:=hrel;have HM:=Aa hrel;have HC':=Aa hC';have HB':=Aa hb';have cC:=Ac hC'.b;have lC:=Ab hC'.b;by_cases hlt:t<ps.length
   ·have hx:=tN hlt
    have hdr:ps.drop t=ps[t]::ps.drop (t+1):=uT hlt;have hmem:ps[t]∈ps:=List.getElem_mem hlt;generalize ps[t]=p at hx hdr hmem;obtain⟨hpp,hzp⟩:=HPZ.o p hmem;obtain⟨k,hk⟩:∃k,pp[p]?=some k:=⟨_,tN (by have:=HN.o;omega)⟩;obtain⟨g,c,e⟩:=Nq HPS.o (fun e=>by rw[e]at hlt;simp at hlt);have ea:=(Value.slice.inj e).1;subst ea;have x0:wr.cell? ⟨g,t,none⟩=some (.pointer (some ⟨k,0,none⟩)):=RM (AT HPS.o hb') hx hk;have lg:=tR wr _ x0;have htI:(t:Int)<ps.length:=by omega
    have HCC:=Aa (HCL.o Cb Mb Sb wr p k vF' L' st' (HB0.o.trans (hb'.mono HB0.o.size)) hb'.size hk hzp hC' hlen' (by
     have:uns st'<=st'.length:=sM st';have:=HN.o;omega) hwt')
    have HBJ:=Aa (HBD.o p (L'.map Prod.fst,st') hpp (by rw[hlen'];exact HN.o));have HE:=Aa (show RES=FK parts of (ps.drop (t+1)) (Cw parts of (parts.length+1) p (L'.map Prod.fst,st'))from by rw[HM.o,hdr,FK]);generalize Cw parts of (parts.length+1) p (L'.map Prod.fst,st')=R1 at*;clear hx hdr hmem hrel hC' hb' HM hk e;go_wp2_with fail;refine HCC.o.mono ?_;rintro _ w4 ⟨rfl,b4,vF4,L4,hC4,hL4⟩;have HC4:=Aa hC4;have HL4:=Aa hL4;have HB4:=Aa (show vE w w4 from HB'.o.trans b4);clear b4 hC4 hL4;go_wp2_with fail;go_roundg (ps.length-(t+1))
    case measure=>omega
    case rel=>exact⟨t+1,vF4,L4,R1.2,by go_num,by omega,tL _,HC4.o,by have:=HN.o;have:=HBJ.o.1;omega,by have:=HBJ.o.2.2;rw[HL4.o];omega,HB4.o,by rw[HL4.o];exact HE.o⟩
   ·have ht:t=ps.length:=by omega
    subst ht;have HE:=Aa (show FF=L'.map Prod.fst from by rw[HQ.o,HM.o,List.drop_length];rfl);obtain⟨av,cv,hv⟩:=An hC'.f;subst hv;clear hb' HM hrel hC';go_wp2_with fail;go_ret;rw[HE.o];exact⟨_,L',rfl,HB'.o,⟨HC'.o.f,HC'.o.sel,HC'.o.own⟩,rfl⟩
end
end Go.Proofs.YtadneapobijejaaGreatDoor
