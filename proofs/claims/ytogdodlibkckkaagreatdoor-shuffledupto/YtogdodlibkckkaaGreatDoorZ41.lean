import Derived.Test.YtogdodlibkckkaaGreatDoorZ40
import Derived.Test.YtogdodlibkckkaaGreatDoorZ34
import Derived.Test.YtogdodlibkckkaaGreatDoorZ38
import Derived.BigQuiet
import Derived.Deep.RegionHeld3
namespace Go.Proofs.YtogdodlibkckkaaGreatDoor
set_option maxHeartbeats 20000000
set_option maxRecDepth 100000
open Go.RowKit Tryz
open Go.Maps Tryz
theorem CO.fr{d Y w0:World}{B0 B1 Cb S gO ko Mb Sb:Nat}{pp:List Nat}{p:Value}{j:List CX}{seen:List Bool}(a:CO d w0 B0 B1 Cb S gO ko Mb Sb pp p j seen)(hs:List Bool)(hb:Y.heap[Sb]?=some (.cells (Bw hs).toArray 4 (0,0)))(l:d.grownBy Y (some Sb)):CO Y w0 B0 B1 Cb S gO ko Mb Sb pp p j hs:=by
 obtain⟨D,n,r⟩:=a.m;have h:∀(k:Nat) (cs:Array Value) (t:TypeId) (g:Nat×Nat),d.heap[k]?=some (.cells cs t g)->t≠4->Y.heap[k]?=some (.cells cs t g):=fun k cs t g c u=>(l.block k (Ab c) (fun e=>by have e:=xD e;subst e;rw[a.s]at c;cases c;exact u rfl)).trans c;exact⟨h Cb _ _ _ a.b (by decide),ID a.f (fun k q _ c=>h k _ _ _ c (by decide)),a.sel,fun i y v=>ID (a.own i y v) (fun k q _ c=>h k _ _ _ c (by decide)),a.ap,⟨D,n.kept l (fun e=>Kr n a.s (xD e).symm),r⟩,a.nd,hb,a.lc,a.lm,a.ls⟩
section
variable {w0:World} {S:Nat} {vR vO vI vU vN:Value} {LR:List (Au×Value)} {LO:List AX} {LI:List (At×Value)} {LU:List (Aw×Value)} {names:List yF} {B0 B1 Cb gO ko Mb Sb:Nat} {pp:List Nat} {parts:List Ai}
theorem dB(bk:SV w0 S vR vO vI vU vN LR LO LI LU names)(bo:∃c,vO=.slice (some ⟨gO,0,none⟩) LO.length c)(aM:Bl w0 B0 pp 0 parts)(bw:pp.length=parts.length)(aV:BP parts)(bz:∀P∈parts,P.sels.length<=1000)(bv:∀P∈parts,∀x∈P.sels,x.key.size<=4000){Z:Nat->Prop}(bm:∀i,Z i->∀x∈(Ax parts i).sels,x.kind≠0->∃j,x.part=some j/\Z j)(aj:AX)(bx:LO[ko]?=some aj)(aK:w0.heap.size<=B1):
 ∀(f:Nat) (w:World) (i k:Nat) (O:Value) (q:List CX) (seen:List Bool),yG w0 w->B1<=w.heap.size->pp[i]?=some k->Z i->CO w w0 B0 B1 Cb S gO (ko*4) Mb Sb pp O q seen->seen.length=pp.length->uns seen+1<=f->wt (q.map Prod.fst)+2000*uns seen<=10000000->
 Calls prog 164 #[.pointer (some ⟨Cb,0,none⟩),.pointer (some ⟨k,0,none⟩)] w fun e w'=>e=.returned (.tuple #[])/\Below B1 w w'/\∃B h,CO w' w0 B0 B1 Cb S gO (ko*4) Mb Sb pp B h (CD parts (AW aj.1 (LU.map Prod.fst)) f i (q.map Prod.fst,seen)).2/\h.map Prod.fst=(CD parts (AW aj.1 (LU.map Prod.fst)) f i (q.map Prod.fst,seen)).1:=by
 have a9:=Aa (fun W (r:yG w0 W) typ=>Sq (bk.below r) ko aj bx typ gO bo);generalize AW aj.1 (LU.map Prod.fst)=of at*;clear bk bo bx;intro f
 induction f with
 |zero=>intro w i k O q seen _ _ _ _ _ _ bC;omega
 |succ f bD=>
 intro w i k O q seen aO cu bs bn u bA bC cf;have cz:i<pp.length:=FC bs;obtain⟨P,ar⟩:∃P,parts[i]?=some P:=⟨_,wS (by omega)⟩;have az:=aM i P ar;rw[Nat.zero_add]at az;obtain⟨a,cap,ah,cC,aY⟩:=az.selAt bs;have ag:=(aO.block _ (Ab ah)).trans ah;obtain⟨b,aB⟩:∃b,seen[i]?=some b:=⟨_,wS (by omega)⟩;have bp:seen.getD i false=b:=by simp[List.getD,aB]
 have aA:Ax parts i=P:=by simp[Ax,List.getD,ar]
 have K:=Aa (show CD parts of (f+1) i (q.map Prod.fst,seen)=(if seen.getD i false=true then(q.map Prod.fst,seen)else CA parts of (CD parts of f) (Ax parts i).sels (q.map Prod.fst,seen.set i true))from by rw[CD]);rw[bp,aA]at K;generalize CD parts of (f+1) i (q.map Prod.fst,seen)=a3 at*;have b0:=Ac ag;have cM:=Ab ag;have bg:=Ac u.b;have ch:=Ab u.b;have bY:w.cell? ⟨Sb,i,none⟩=some (.bool b):=(Ac u.s i).trans (Nj seen i b aB);have b2:=Ak u.s;have cL:=Ab u.s;have cA:¬k=Sb:=Eg ag u.s (by decide);have cv:¬Cb=Sb:=Eg u.b u.s (by decide);have cy:(i:Int)<pp.length:=by omega
 have b3:=Aa u;have aD:=Aa aO;cases b
 ·rw[xG (by simp)]at K
  have bl:(w.setCell ⟨Sb,i,none⟩ (.bool true)).heap[Sb]?=some (.cells (Bw (seen.set i true)).toArray 4 (0,0)):=by rw[<-OF];exact AI u.s i _
  have bL:=Aa (show CO (w.setCell ⟨Sb,i,none⟩ (.bool true)).drew.drew w0 B0 B1 Cb S gO (ko*4) Mb Sb pp O q (seen.set i true)from(u.fr (seen.set i true) bl (RD w Sb i _)).below (wR _ _).drew.drew);have cG:=KD seen i aB;have cK:uns (seen.set i true)+1<=f:=by omega
  have cb:(seen.set i true).length=pp.length:=by simp[bA]
  have b6:=u.ls;have a4:=Aa (show Below B1 w (w.setCell ⟨Sb,i,none⟩ (.bool true)).drew.drew from((wR _ _).setCell b6 _).drew.drew);have cg:wt (q.map Prod.fst)+2000*uns (seen.set i true)+2*P.sels.length<=10000000:=by omega
  have bO:=Aa bD;have V:=Aa ah;have bU:=Aa aY;have b5:=Aa (fun x (A:x∈P.sels) j (e:x.part=some j)=>(show j<parts.length from aV.d i x (by rw[aA];exact A) j e));have b8:=Aa (fun x (A:x∈P.sels) (e:x.kind≠0)=>bm i bn x (by rw[aA];exact A) e);have b4:=Aa (fun x (A:x∈P.sels)=>bv P (wT ar) x A);have bR:=Aa aM;have bQ:=Aa (fun j p (ca:parts[j]?=some p)=>(show Ax parts j=p from by simp[Ax,List.getD,ca]));have bK:=Aa (OM (of:=of) aV bz f);generalize cd:seen.set i true=st1 at*;obtain⟨y,bc⟩:∃y,Hi (y=CA parts of (CD parts of f) P.sels (q.map Prod.fst,st1)):=⟨_,Aa rfl⟩;rw[<-bc.o]at K;have ao:=Aa bw;clear cd aY az ag ah ar bp aA aB bD aO aM bA bC aV bw u bl bz bv bm bn cf;go_enter func164,ntmps164;go_wp2;go_region;go_wp2;go_region;generalize (w.setCell ⟨Sb,i,none⟩ (.bool true)).drew.drew=bW at*;have bt:k<B1:=xA (Ab V.o) aK;have aS:bW.heap[k]?=some (.cells #[.string P.typ,.int .i64 i,.slice a P.sels.length cap] 223 (0,0)):=(a4.o.block k bt).trans ((aD.o.block k (Ab V.o)).trans V.o);have ct:=Ac aS;have cN:=Ab aS;clear b0 bY b2 aS bg ch;go_wp2;go_loopg [4,5,30] P.sels.length (fun m v4 v5 v30 wr=>∃(t:Nat) (B:Value) (h:List CX) (n:List Bool),v30=.int .i64 t/\t<=P.sels.length/\P.sels.length-t<=m/\CO wr w0 B0 B1 Cb S gO (ko*4) Mb Sb pp B h n/\n.length=pp.length/\uns n<=uns st1/\wt (h.map Prod.fst)+2000*uns n+2*(P.sels.length-t)<=10000000/\Below B1 w wr/\y=CA parts of (CD parts of f) (P.sels.drop t) (h.map Prod.fst,n))
  case atStart=>exact⟨0,O,q,st1,rfl,wZ _,wQ _,bL.o,cb,wQ _,cg,a4.o,bc.o⟩
  case round=>
   obtain⟨t,B,h,n,rfl,cE,cF,aL,ai,aZ,cI,M,hrel⟩:=hrel;have z:=Aa hrel;have H:=Aa aL;have R:=Aa M;have cw:=M.size;have af:yG w0 wr:=aD.o.trans (M.mono aK);have G:=Aa af;have ax:wr.heap[k]?=some (.cells #[.string P.typ,.int .i64 i,.slice a P.sels.length cap] 223 (0,0)):=(M.block k bt).trans ((aD.o.block k (Ab V.o)).trans V.o);have b1:=Ac ax;have cO:=Ab ax;by_cases aU:t<P.sels.length
   ·have A:=wS aU
    have aR:P.sels.drop t=P.sels[t]::P.sels.drop (t+1):=xX aU;have ay:P.sels[t]∈P.sels:=List.getElem_mem aU;generalize P.sels[t]=x at A aR ay;obtain⟨g,b9,cx,aX⟩:=bU.o t x A;subst b9;have J:=Aa (kV (aX.below af));obtain⟨co,cq,cp,bg,aP,cc⟩:=(aX.below af).ex;have Q:wr.cell? ⟨g,t*6,none⟩=some (.int .i64 x.kind):=by simpa using aP 0 _ rfl
    have bf:=Aa (show wr.cell? ⟨g,t*6+5,none⟩=some (AO pp x.part)from aP 5 _ rfl);have cB:g<wr.heap.size:=wW wr _ Q;have au:=b5.o x ay;have cD:(t:Int)<P.sels.length:=by omega
    have aC:=Aa (fun W (r:yG wr W)=>ZO (G.o.trans (r.mono G.o.size)) aK (wV (by omega) r.size) (H.o.below r) aX (b4.o x ay) (show wt (h.map Prod.fst)<=10000000 by omega));rw[aR]at z;clear aP A aR hrel M cc af ax aL;cases F:Mj x
    ·rw[F]at J
     by_cases N:x.kind=0
     ·have U:=Aa (show y=CA parts of (CD parts of f) (P.sels.drop (t+1)) (Dd x (h.map Prod.fst),n)from by rw[z.o,CA,F,xG (by simp),xH N])
      have cH:=Tp x (h.map Prod.fst);rw[N]at Q;have bB:wr.cell? ⟨g,t*6,none⟩=some (.int .i64 0):=Q;clear F N z au Q;generalize Dd x (h.map Prod.fst)=cl at*;go_wp2_with fail;refine J.o.mono ?_;rintro _ w2 ⟨rfl,l⟩;have a2:=Ah l bB;have ci:=wW w2 _ a2;have ak:=Aa l;have bJ:=Aa (aC.o w2 l);clear l bB;go_wp2_with fail;refine bJ.o.mono ?_;rintro _ w3 ⟨rfl,ap,cj,bV,bi,bj⟩;have aH:=Aa bi;have aF:=Aa (show Below B1 w w3 from(R.o.trans (ak.o.mono (by omega))).trans ap);have a7:=Aa bj;clear ap bi bj;go_wp2;go_roundg (P.sels.length-(t+1))
      case measure=>omega
      case rel=>exact⟨t+1,cj,bV,n,by go_num,by omega,wQ _,aH.o,ai,aZ,by rw[a7.o];omega,aF.o,by rw[a7.o];exact U.o⟩
     ·have cm:((x.kind:Int)==0)=false:=by simp;omega
      obtain⟨j,aq,b7⟩:=b8.o x ay N;have br:=au j aq;obtain⟨E,av⟩:∃E,pp[j]?=some E:=⟨_,wS (by have:=ao.o;omega)⟩;have bH:wr.cell? ⟨g,t*6+5,none⟩=some (.pointer (some ⟨E,0,none⟩)):=by have:=bf.o;rw[aq]at this;rw[this];simp[AO,av]
      obtain⟨p,aN⟩:∃p,parts[j]?=some p:=⟨_,wS br⟩;have aW:=bR.o j p aN;rw[Nat.zero_add]at aW;obtain⟨bX,bZ,aw, -, -⟩:=aW.selAt av;obtain⟨a0,bq⟩:∃a0:Nat,a0=j:=⟨j,rfl⟩;rw[<-bq]at aw;have bu:=(G.o.block _ (Ab aw)).trans aw;have a6:=Aa bu;have a8:=Aa (fun W (r:yG wr W)=>a9.o W (G.o.trans (r.mono G.o.size)) p.typ);have ba:=Aa (fun W (r:yG wr W)=>bO.o W j E B h n (G.o.trans (r.mono G.o.size)) (wV (by omega) r.size) av b7 (H.o.below r) ai (by omega) (by omega));have I:=Aa (bK.o j (h.map Prod.fst,n) br (by rw[ai];exact ao.o));have al:=Aa (show y=if ((p.typ.toList==[])||of p.typ)=true then CA parts of (CD parts of f) (P.sels.drop (t+1)) (CD parts of f j (h.map Prod.fst,n))else CA parts of (CD parts of f) (P.sels.drop (t+1)) (h.map Prod.fst,n)from by
       rw[z.o,CA,F,xG (by simp),xG N,aq];simp only[];rw[bQ.o j p aN,show(p.typ.toList==[])=decide (p.typ=bE)from by rw[BX p.typ];rfl])
      generalize CD parts of f j (h.map Prod.fst,n)=aa at*;generalize of p.typ=ob at*;have a5:=Aa H.o.b;clear F N z au av aq aW aN aw bu bf a9 aC bq;go_wp2_with fail;refine J.o.mono ?_;rintro _ w2 ⟨rfl,l⟩;have ak:=Aa l;have a2:=Ah l Q;have bI:=Ah l bH;have ci:=wW w2 _ a2;have aT:=(l.block _ (Ab a6.o)).trans a6.o;have cs:=Ac aT;have bG:=Ab aT;have aQ:=(l.block _ (Ab a5.o)).trans a5.o;have cr:=Ac aQ;have bF:=Ab aQ;have bb:=Aa (fun W (r:yG w2 W)=>ba.o W (bT l r));have bP:=Aa (fun W (r:yG w2 W)=>a8.o W (bT l r));have bN:=Aa (H.o.below l);have aE:=Aa (show Below B1 w w2 from R.o.trans (l.mono (by omega)));have cJ:=l.size;clear l ba a8 J Q bH H R b1;cases bh:(p.typ.toList==[])
      ·rw[bh]at al
       have am:=Aa (show y=if ob=true then CA parts of (CD parts of f) (P.sels.drop (t+1)) aa else CA parts of (CD parts of f) (P.sels.drop (t+1)) (h.map Prod.fst,n)from al.o);have bd:=Aa (fun C (L:yG w2 C)=>xZ L (xZ (Ac ((L.block _ bF).trans aQ)) (xZ (Ac ((L.block _ bG).trans aT)) (xZ (Ah L bI) (xZ (xA bF L.size) (xA bG L.size))))));go_wp2;go_region_held3 (fun C=>yG w2 C/\(∀j,C.cell? ⟨Cb,j,none⟩=(#[.pointer (some ⟨S,0,none⟩),.pointer (some ⟨gO,ko*4,none⟩),B,.map (some Mb),.slice (some ⟨Sb,0,none⟩) pp.length pp.length]:Array Value)[j]?)/\(∀j,C.cell? ⟨E,j,none⟩=(#[.string p.typ,.int .i64 a0,.slice bX p.sels.length bZ]:Array Value)[j]?)/\C.cell? ⟨g,t*6+5,none⟩=some (.pointer (some ⟨E,0,none⟩))/\Cb<C.heap.size/\E<C.heap.size)
        (first|exact bd.o _ (wR _ _).drew|exact bd.o _ (bT D ap))
        (first|(go_at_call 217;obtain⟨D, -⟩:= ‹yG w2 _/\_›;refine(bP.o _ D).mono ?_;rintro _ w3 ⟨rfl,ap⟩))
       all_goals(
        obtain⟨D,z1,z2,z3,z4,cQ⟩:= ‹yG w2 _/\_›;cases ob
        ·have Y:=Aa (show y=CA parts of (CD parts of f) (P.sels.drop (t+1)) (h.map Prod.fst,n)from am.o)
         have aF:=Aa (show Below B1 w _ from aE.o.trans (D.mono (by omega)));have aH:=Aa (bN.o.below D);clear D;go_wp2;go_roundg (P.sels.length-(t+1))
         case measure=>omega
         case rel=>exact⟨t+1,B,h,n,by go_num,by omega,wQ _,aH.o,ai,aZ,by omega,aF.o,Y.o⟩
        ·have Y:=Aa (show y=CA parts of (CD parts of f) (P.sels.drop (t+1)) aa from am.o)
         have T:=Aa D;clear D;go_wp2_with fail;refine(bb.o _ T.o).mono ?_;rintro _ w4 ⟨rfl,ab,a1,aJ,ad,ae⟩;have aI:=Aa ad;have X:=Aa ae;have aG:=Aa (show Below B1 w w4 from(aE.o.trans (Below.mono T.o (by omega))).trans ab);clear ab ad ae;go_wp2;go_roundg (P.sels.length-(t+1))
         case measure=>omega
         case rel=>exact⟨t+1,a1,aJ,aa.2,by go_num,by omega,wQ _,aI.o,by have:=ao.o;have:=I.o.1;omega,by have:=I.o.2.1;omega,by have:=I.o.2.2;rw[X.o];omega,aG.o,by rw[X.o];exact Y.o⟩)
      ·rw[bh]at al
       have am:=Aa (show y=CA parts of (CD parts of f) (P.sels.drop (t+1)) aa from al.o);have Y:=am;go_wp2;go_quiet (fail);have ck:(w2.drewN nq).cell? ⟨g,t*6+5,none⟩=some (.pointer (some ⟨E,0,none⟩)):=Ah (below_drewN (wR _ _) nq) bI;have cP:g<(w2.drewN nq).heap.size:=wW _ _ ck;have T:=Aa (below_drewN (wR w2.heap.size w2) nq);generalize w2.drewN nq=cn at*;go_wp2_with fail;refine(bb.o _ T.o).mono ?_;rintro _ w4 ⟨rfl,ab,a1,aJ,ad,ae⟩;have aI:=Aa ad;have X:=Aa ae;have aG:=Aa (show Below B1 w w4 from(aE.o.trans (Below.mono T.o (by omega))).trans ab);clear ab ad ae;go_wp2;go_roundg (P.sels.length-(t+1))
       case measure=>omega
       case rel=>exact⟨t+1,a1,aJ,aa.2,by go_num,by omega,wQ _,aI.o,by have:=ao.o;have:=I.o.1;omega,by have:=I.o.2.1;omega,by have:=I.o.2.2;rw[X.o];omega,aG.o,by rw[X.o];exact Y.o⟩
    ·rw[F]at J
     have U:=Aa (show y=CA parts of (CD parts of f) (P.sels.drop (t+1)) (h.map Prod.fst,n)from by rw[z.o,CA,F,xH rfl]);clear F z au aC;go_wp2_with fail;refine J.o.mono ?_;rintro _ w2 ⟨rfl,l⟩;have ak:=Aa (show Below B1 w w2 from R.o.trans (l.mono (by omega)));have bM:=Aa (H.o.below l);clear l;go_wp2;go_roundg (P.sels.length-(t+1))
     case measure=>omega
     case rel=>exact⟨t+1,B,h,n,by go_num,by omega,wQ _,bM.o,ai,aZ,by omega,ak.o,U.o⟩
   ·have ce:t=P.sels.length:=by omega
    subst ce;have U:=Aa (show a3=(h.map Prod.fst,n)from by rw[K.o,z.o,List.drop_length];rfl);clear M z hrel af aL ax;go_wp2;go_end0;rw[U.o];exact⟨rfl,R.o,B,h,H.o,rfl⟩
 ·rw[xH rfl]at K
  have bS:=Aa (show a3=(q.map Prod.fst,seen)from K.o);clear u aY az ag ah;go_enter func164,ntmps164;go_wp2;go_region;go_wp2;refine bodyPost_ret (v:=.tuple #[]) (by simp[results,go_sem]) rfl ?_;rw[bS.o];exact⟨rfl,(wR _ _).drew,O,q,b3.o.below (wR _ _).drew,rfl⟩
end
structure KI(X w0:World)(B0 B1:Nat)(pp:List Nat)(vF:Value)(L:List CX):Prop where
 f:X.ownsRow B1 254 2 vF L.length (L.flatMap Kf)
 sel:∀y∈L,Fg w0 B0 pp y.2.1.1 y.2.1.2 y.1.1
 own:∀(i:Nat) (y:CX),L[i]?=some y->X.ownsRow B1 120 1 y.2.2 y.1.2.length (Bz pp y.1.2)
theorem KI.ft{c Y w0:World}{B B0 B1:Nat}{pp:List Nat}{e:Value}{b:List CX}(a:KI c w0 B0 B1 pp e b)(d:FT B kM c Y):KI Y w0 B0 B1 pp e b:=⟨d.own a.f (by decide),a.sel,fun i y g=>d.own (a.own i y g) (by decide)⟩
theorem CO.start{d w0:World}{B0 B1 Cb S gO ko Mb Sb:Nat}{pp:List Nat}(h:d.heap[Cb]?=some (.cells #[.pointer (some ⟨S,0,none⟩),.pointer (some ⟨gO,ko,none⟩),.slice none 0 0,.map (some Mb),.slice (some ⟨Sb,0,none⟩) pp.length pp.length] 297 (0,0)))(l:BS d Mb 0 (.map []))(k:d.heap[Sb]?=some (.cells (madeCells #[.bool false] pp.length) 4 (0,0)))(e:B1<=Cb)(f:B1<=Mb)(g:B1<=Sb):CO d w0 B0 B1 Cb S gO ko Mb Sb pp (.slice none 0 0) [] (List.replicate pp.length false):=
 ⟨h,xF _ _ _ _,fun _ c=>by simp at c,fun i y c=>by simp at c,fun i j a b _ c=>by simp at c,⟨.map [],l,PM.nil⟩,List.nodup_nil,by rw[<-NK];exact k,e,f,g⟩
theorem vG:∀l:List Bool,uns l<=l.length:=fun l=>by unfold uns;exact List.countP_le_length ..
theorem pR(w:World)(a c:Obj):BS (((w.alloc a).alloc (.map #[] 0)).alloc c) (w.heap.size+1) 0 (.map []):=by
 have b:BS ((w.alloc a).alloc (.map #[] 0)) (w.alloc a).heap.size 0 (.map []):=World.ownsMap_made (w.alloc a) _ _ _;have e:(w.alloc a).heap.size=w.heap.size+1:=by simp
 rw[e]at b;exact b.alloc c
section
variable {w0:World} {S:Nat} {vR vO vI vU vN:Value} {LR:List (Au×Value)} {LO:List AX} {LI:List (At×Value)} {LU:List (Aw×Value)} {names:List yF} {B0 gO ko:Nat} {pp:List Nat} {parts:List Ai}
theorem dO(ag:SV w0 S vR vO vI vU vN LR LO LI LU names)(aj:∃c,vO=.slice (some ⟨gO,0,none⟩) LO.length c)(af:Bl w0 B0 pp 0 parts)(z:pp.length=parts.length)(I:BP parts)(K:∀P∈parts,P.sels.length<=1000)(ak:∀P∈parts,∀x∈P.sels,x.key.size<=4000)(aZ:parts.length<=2000){Z:Nat->Prop}(ah:∀i,Z i->∀x∈(Ax parts i).sels,x.kind≠0->∃j,x.part=some j/\Z j)(l:AX)(am:LO[ko]?=some l)
 {w:World} (y:yG w0 w) {Y T:Nat} {v1 v3 v4 v5 v6 vL aQ:Value} (C:w.heap[Y]?=some (.cells #[.pointer (some ⟨T,0,none⟩),v1,.int .i64 pp.length,v3,v4,v5,v6] 117 (0,0))) (D:w0.heap[T]?=some (.cells #[vL,.pointer (some ⟨S,0,none⟩),aQ] 67 (0,0))) {aq:Value} {a:List Nat} {ar:Nat} (J:w.ownsRow ar 120 1 aq a.length (Bz pp a)) (ao:∀p∈a,p<parts.length/\Z p) (a1:a.length<=10000000):
 Calls prog 118 #[.pointer (some ⟨Y,0,none⟩),.pointer (some ⟨gO,ko*4,none⟩),aq] w fun e w'=>∃ap X,e=.returned ap/\yG w w'/\KI w' w0 B0 w.heap.size pp ap X/\X.map Prod.fst=DG parts (AW l.1 (LU.map Prod.fst)) a:=by
 have aB:=Aa (fun(Cb Mb Sb:Nat)=>dB (B1:=w.heap.size) (Cb:=Cb) (Mb:=Mb) (Sb:=Sb) ag aj af z I K ak ah l am y.size (parts.length+1));have ax:=Aa (OM (of:=AW l.1 (LU.map Prod.fst)) I K (parts.length+1));have V:=Aa (show DG parts (AW l.1 (LU.map Prod.fst)) a=(Gb parts (AW l.1 (LU.map Prod.fst)) a ([],List.replicate pp.length false)).1 from by unfold DG;rw[z]);generalize DG parts (AW l.1 (LU.map Prod.fst)) a=au at*;generalize AW l.1 (LU.map Prod.fst)=of at*;have aF:=Ac C;have aN:=Ab C;have E:=(y.block _ (Ab D)).trans D;have aG:=Ac E;have aO:=Ab E;have aX:=run_make_row' (P:=prog) 142 4 (.bool false) 1 underlying142 info4 rfl .i64 .i64 pp.length (by omega) (by omega);have aY:=WN;have O:=Aa y;have U:=Aa J;have aC:=Aa ao;have u:=Aa z;have a0:pp.length<=2000:=by omega
 obtain⟨aS,aV,rfl⟩:=An J;clear ag aj af I K ak ah am C D E y J ao z;go_enter func118,ntmps118;go_wp2;go_cut [7] (fun v7 wc=>∃Cb Mb Sb,v7=.pointer (some ⟨Cb,0,none⟩)/\yG w wc/\CO wc w0 B0 w.heap.size Cb S gO (ko*4) Mb Sb pp (.slice none 0 0) [] (List.replicate pp.length false))
 case first=>
  go_region;all_goals(
   go_wp2;go_meet;first
    |exact⟨w.heap.size+1+1,w.heap.size,w.heap.size+1,rfl,(bA (bA (bA (wR _ _) _) _) _).drew,(CO.start (Ht w _ _ _).2.2 (((World.ownsMap_made w _ _ _).alloc _).alloc _) (Ht w _ _ _).2.1 (by omega) (wQ _) (by omega)).below (wR _ _).drew⟩
    |exact⟨w.heap.size+1+1,w.heap.size+1,w.heap.size,rfl,(bA (bA (bA (wR _ _) _) _) _).drew,(CO.start (Ht w _ _ _).2.2 (pR w _ _) (Ht w _ _ _).1 (by omega) (by omega) (wQ _)).below (wR _ _).drew⟩)
 case rest=>
  obtain⟨Cb,Mb,Sb,rfl,ai,ab⟩:=hcut;obtain⟨v,W⟩:∃v,Hi (v=Gb parts of a ([],List.replicate pp.length false)):=⟨_,Aa rfl⟩;rw[<-W.o]at V;have av:=Aa ai;have ay:=Aa ab;clear ai ab aF aN aG aO;go_wp2;go_loopg [9,28] a.length (fun m v9 v28 wr=>∃(t:Nat) (M:Value) (h:List CX) (d:List Bool),v28=.int .i64 t/\t<=a.length/\a.length-t<=m/\CO wr w0 B0 w.heap.size Cb S gO (ko*4) Mb Sb pp M h d/\d.length=pp.length/\wt (h.map Prod.fst)+2000*uns d<=10000000/\yG w wr/\v=Gb parts of (a.drop t) (h.map Prod.fst,d))
  case atStart=>exact⟨0,_,[],_,rfl,wZ _,wQ _,ay.o,by simp,by rw[Jl];show 0+_<=_;omega,av.o,W.o⟩
  case round=>
   obtain⟨t,M,h,d,rfl,a3,a4,n,al,aL,q,hrel⟩:=hrel;have s:=Aa hrel;have A:=Aa n;have N:=Aa q;have aU:=Ac n.b;have a5:=Ab n.b;by_cases r:t<a.length
   ·have L:=wS r
    have F:a.drop t=a[t]::a.drop (t+1):=xX r;have H:a[t]∈a:=List.getElem_mem r;generalize a[t]=p at L F H;obtain⟨aI,aM⟩:=aC.o p H;obtain⟨k,G⟩:∃k,pp[p]?=some k:=⟨_,wS (by have:=u.o;omega)⟩;obtain⟨g,c,e⟩:=NQ U.o (fun e=>by rw[e]at r;simp at r);have aH:=(Value.slice.inj e).1;subst aH;have aR:wr.cell? ⟨g,t,none⟩=some (.pointer (some ⟨k,0,none⟩)):=Sy (AT U.o q) L G;have a6:=wW wr _ aR;have a2:(t:Int)<a.length:=by omega
    have aA:=Aa (aB.o Cb Mb Sb wr p k M h d (O.o.trans (q.mono O.o.size)) q.size G aM n al (by
     have:uns d<=d.length:=vG d;have:=u.o;omega) aL)
    have Q:=Aa (ax.o p (h.map Prod.fst,d) aI (by rw[al];exact u.o));have B:=Aa (show v=Gb parts of (a.drop (t+1)) (CD parts of (parts.length+1) p (h.map Prod.fst,d))from by rw[s.o,F,Gb]);generalize CD parts of (parts.length+1) p (h.map Prod.fst,d)=aE at*;clear L F H hrel n q s G e;go_wp2_with fail;refine aA.o.mono ?_;rintro _ w4 ⟨rfl,aa,aP,aD,ad,ae⟩;have az:=Aa ad;have R:=Aa ae;have aw:=Aa (show yG w w4 from N.o.trans aa);clear aa ad ae;go_wp2;go_roundg (a.length-(t+1))
    case measure=>omega
    case rel=>exact⟨t+1,aP,aD,aE.2,by go_num,by omega,wQ _,az.o,by have:=u.o;have:=Q.o.1;omega,by have:=Q.o.2.2;rw[R.o];omega,aw.o,by rw[R.o];exact B.o⟩
   ·have aJ:t=a.length:=by omega
    subst aJ;have B:=Aa (show au=h.map Prod.fst from by rw[V.o,s.o,List.drop_length];rfl);obtain⟨aT,aW,aK⟩:=An n.f;subst aK;clear q s hrel n;go_wp2;go_ret;rw[B.o];exact⟨_,h,rfl,N.o,⟨A.o.f,A.o.sel,A.o.own⟩,rfl⟩
end
end Go.Proofs.YtogdodlibkckkaaGreatDoor
