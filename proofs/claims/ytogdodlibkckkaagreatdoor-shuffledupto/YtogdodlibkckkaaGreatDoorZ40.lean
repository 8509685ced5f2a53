import Derived.Test.YtogdodlibkckkaaGreatDoorZ36
import Derived.Test.YtogdodlibkckkaaGreatDoorZ37
import Derived.Deep.RegionLaw
import Derived.Deep.DeepCutAuto
namespace Go.Proofs.YtogdodlibkckkaaGreatDoor
set_option maxHeartbeats 20000000
set_option maxRecDepth 100000
open Go.RowKit Tryz
open Go.Maps Tryz
open Go.ChangeMaps Tryz
theorem infoFl:(prog.info? 254).map (fun i=>(i.zero,i.size,i.bytes))=some (some (.agg #[.pointer none,.slice none 0 0]),2,32):=by kernel_rfl
theorem dW(L:List CX):L.map Hw=(L.map Prod.fst).map (fun f=>f.1.key):=by rw[List.map_map];rfl
theorem ZM(x:As)(L:List CX)(c:(Nat×Nat)×Value)(a:x.key∉L.map Hw):Dd x (L.map Prod.fst)=((L++[((x,[]),c)]).map Prod.fst).set L.length (x,[]++x.part.toList):=by
 rw[TM x _ (fun y b e=>a (by rw[dW];exact List.mem_map.2 ⟨y,b,e⟩))];rw[xY,List.set_append_right _ _ (by simp)];simp
theorem ZL(x:As)(L:List CX)(j:Nat)(y:CX)(a:L[j]?=some y)(b:y.1.1.key=x.key)(g:(L.map Hw).Nodup):Dd x (L.map Prod.fst)=(L.map Prod.fst).set j (y.1.1,y.1.2++x.part.toList):=by
 refine TO x _ j y.1 (by rw[xI,a];rfl) b (fun z h e=>?_);obtain⟨i,d,rfl⟩:=List.mem_iff_getElem.1 h;rw[List.length_take,xT]at d;have f:j<L.length:=(wU.1 a).1;have c:=(List.pairwise_iff_getElem.1 g) i j (by simp;omega) (by simp;omega) (by omega);apply c;rw[List.getElem_map,List.getElem_map];rw[wS f]at a;rw[xD a];show L[i].1.1.key=y.1.1.key;rw[b,<-e,List.getElem_take,List.getElem_map]
section
variable {w w0:World} {B0 B1 Cb S gO ko Mb Sb:Nat} {pp:List Nat} {vF:Value} {L:List CX} {seen:List Bool}
theorem ZO(bv:yG w0 w)(bt:w0.heap.size<=B1)(ag:B1<=w.heap.size)(A:CO w w0 B0 B1 Cb S gO ko Mb Sb pp vF L seen){g o:Nat}{x:As}(hs:Fg w0 B0 pp g o x)(r:x.key.size<=4000)(aZ:wt (L.map Prod.fst)<=10000000):Calls prog 216 #[.pointer (some ⟨Cb,0,none⟩),.pointer (some ⟨g,o,none⟩)] w fun e w'=>e=.returned (.tuple #[])/\Below B1 w w'/\∃bV aF,CO w' w0 B0 B1 Cb S gO ko Mb Sb pp bV aF seen/\aF.map Prod.fst=Dd x (L.map Prod.fst):=by
 obtain⟨bK,bB,bX,bY,bZ⟩:=info_parts infoFl;obtain⟨bL,bC,b0,b1,b2⟩:=info_parts infoPt;obtain⟨D,aj,ak⟩:=A.m;obtain⟨aI,F,bG⟩:=An A.f;subst bG;have cc:L.length<=10000000:=by have:=ZA (L.map Prod.fst);rw[xT]at this;omega
 obtain⟨b3,b5,b4,aJ,ah,aU⟩:=(hs.below bv).ex;have ao:w.cell? ⟨g,o+1,none⟩=some (.string x.key):=ah 1 _ rfl;have M:w.cell? ⟨g,o+5,none⟩=some (AO pp x.part):=ah 5 _ rfl;have aG:=Aa M;have bR:=wW w _ ao;have bz:g<w0.heap.size:=by
  obtain⟨_,_,_,_,R,_⟩:=hs.ex;exact wW w0 _ (R 1 _ rfl)
 have aJ:=Ac A.b;have bP:=Ab A.b;obtain⟨c0,U,I⟩:=nE aj.drew x.key (by unfold maxLen;omega);have aO:=ak.hasP x.key;have bc:=Aa aU.p;have aB:=Aa ak;have aA:=Aa aj;have ax:=Aa A;have bh:=Aa aZ;have bf:=Aa hs;rw[aO]at U;have a2:=Aa I;generalize aR:AS x.key (L.map Hw)=bU at*;have ay:=Aa aR;clear A ak aj ah aU aZ hs aO I aR M;go_enter func216,ntmps216;go_wp2;go_region;all_goals(
  clear U;have z:=(wR w.heap.size w).drew;have ar:=Aa z;have s:=Aa (ax.o.below z);have aK:=Ac s.o.b;have cl:=Ab s.o.b;have a1:=Ah z ao;have bS:=wW _ _ a1;have aH:=Aa (Ah z aG.o);have af:B1<=w.drew.heap.size:=wV ag z.size;have Z:=Aa (aA.o.below z);clear aJ bP ao bR z ax aG aA;generalize w.drew=W at*
  go_upto_if 19 with fail
  go_cut [4] (fun v4 wc=>∃(j l F:Nat) (d:List CX) (y:CX),v4=.int .i64 j/\Below B1 W wc/\CO wc w0 B0 B1 Cb S gO ko Mb Sb pp (.slice (some ⟨l,0,none⟩) d.length F) d seen/\d[j]?=some y/\d.length<=10000001/\y.1.2.length<=10000000/\Dd x (L.map Prod.fst)=(d.map Prod.fst).set j (y.1.1,y.1.2++x.part.toList))
  case first=>
   cases bU
   ·have aT:x.key∉L.map Hw:=fun e=>by have:=ay.o;rw[(FD x.key _).2 e]at this;cases this
    have az:=Aa aT;have bH:(Lit.int .i64 (L.length:Int)).wf=true:=by simp[Lit.wf,IntKind.min,IntKind.max,IntKind.bits,IntKind.signed];omega
    obtain⟨O,U,aW,K⟩:=Z.o.drew.update Ci underlying65 (by unfold maxLen;omega) (NC x.key (by unfold maxLen;omega)) (plainElem_int (H:=Unit) underlying3 bH);have aC:=Aa (aB.o.snoc x.key);rw[xT]at aC;have bb:=Aa aW;have a7:=Aa K;have G:=s.o.below (wR W.heap.size W).drew;have a6:=Aa G;have bu:Cb≠Mb:=Kr Z.o s.o.b;have J:=(K.block Cb (Ab G.b) (fun e=>bu (xD e))).trans G.b;have a3:=Aa J;have c4:=Ac J;have bO:=Ab J;have bJ:=K.size;have aw:=Aa (show O.ownsRow B1 254 2 (.slice aI L.length F) L.length (L.flatMap Kf)from ID G.f (fun k b7 _ r=>(K.block k (Ab r) (fun e=>Kr Z.o (k:=k) r (xD e))).trans r));have cb:B1<=O.heap.size:=wV af bJ;have ai:Option.some Cb≠(Value.slice aI L.length F).ownBlock:=EA aw.o J (by decide);clear aT aW K G J;go_wp2;go_region;all_goals(
     clear U aK;go_wp2_with (at_builtin;refine wpList_append_lies _ rfl _ _ 251 rfl B1 254 bK _ 2 32 underlying251 bB bX bY bZ rfl (by decide) _ _ _ rfl (aw.o.alloc _) ⟨O.heap.size,0,none⟩ 1 1 [.pointer (some ⟨g,o,none⟩),.slice none 0 0] rfl rfl (Cz _ _ _ _ (by simp)) (PN rfl rfl) (by decide) (by unfold maxLen;omega) (by omega) (by simp;omega) (O.heap.size+1) (by simp) ?_;intro bs bk cm aV c bI bA;have P:=(c.block Cb (by simp;omega) ai).trans ((AJ _ _ _ bO).trans a3.o);have cd:=Ac P;have ce:=Ak P;have cj:=Ab P;have bd:=Aa aV;have a8:=Aa c;clear P aV c);have E:=Aa (a6.o.push (wV af (wR W.heap.size W).drew.size) bf.o az.o a7.o bb.o aC.o a8.o bd.o);clear bI bA;go_meet;refine⟨L.length,bs,bk,L++[((x,[]),(g,o),.slice none 0 0)],((x,[]),(g,o),.slice none 0 0),rfl,?_,?_,by simp,by simp;omega,by simp,ZM x L _ az.o⟩
     ·exact((wR B1 W).drew).trans E.o.2
     ·rw[xJ]
      exact E.o.1)
   ·have aS:x.key∈L.map Hw:=(FD x.key _).1 ay.o
    obtain⟨j,B,aP⟩:=aB.o.val x.key aS;rw[xI]at B;obtain⟨y,V,aQ⟩:=yC.1 B;have R:c0=j:=by
     have:=a2.o;rw[aP]at this;simp only[DataW.lit.injEq,Lit.int.injEq,true_and]at this;exact this.symm
    have a4:=Aa R;obtain⟨l,bj,e, -⟩:=s.o.fld V;have ae:=(Value.slice.inj e).1;subst ae;have aE:=Aa V;have ba:=Aa aQ;have bg:=Aa (Tq (L.map Prod.fst) y.1 (List.mem_map.2 ⟨y,wT V,rfl⟩));clear B aP V aQ R aS e;go_wp2;go_meet;exact⟨j,l,F,L,y,by rw[a4.o],wR _ _,s.o,aE.o,by omega,by have:=bg.o;have:=bh.o;omega,ZL x L j y aE.o ba.o s.o.nd⟩
  case rest=>
   obtain⟨j,l,b6,d,y,rfl,Q,h,B,ci,ck,aM⟩:=hcut;have N:=Aa aM;have au:=Aa h;have t:=Aa B;have aq:=Aa Q;have cf:g<W.heap.size:=bS;have aN:g<B1:=xA bz bt;have ap:wc.cell? ⟨g,o+5,none⟩=some (AO pp x.part):=(Q.cell (p:=⟨g,o+5,none⟩) aN).trans aH.o;have aa:=Aa ap;have bT:=wW wc _ ap;have bw:=Q.size;clear aM Q aH B ap aK a1;cases v:x.part with
   |none=>
    have M:wc.cell? ⟨g,o+5,none⟩=some (.pointer none):=by have:=aa.o;rw[v]at this;exact this
    have Y:=Aa (show Dd x (L.map Prod.fst)=d.map Prod.fst from by
     rw[N.o,v];simp only[Option.toList_none,List.append_nil];refine List.ext_getElem? (fun n=>?_);rw[List.getElem?_set];split
     ·rename_i e
      subst e;rw[xI,t.o];split
      ·rfl
      ·rename_i q
       exact absurd (by rw[xT];exact(wU.1 t.o).1) q
     ·rfl)
    clear v h N;go_wp2;go_end0;exact⟨rfl,(ar.o.mono ag).trans aq.o,_,d,au.o,Y.o.symm⟩
   |some i=>
    obtain⟨k,r⟩:∃k,pp[i]?=some k:=⟨_,wS (bc.o i v)⟩;have M:wc.cell? ⟨g,o+5,none⟩=some (.pointer (some ⟨k,0,none⟩)):=by have:=aa.o;rw[v]at this;rw[this];simp[AO,r]
    have Y:=Aa (show Dd x (L.map Prod.fst)=(d.map Prod.fst).set j (y.1.1,y.1.2++[i])from by rw[N.o,v];rfl);obtain⟨ca,bj,e,bQ, -,f1⟩:=h.fld t.o;have ae:=(Addr.mk.inj (xD (Value.slice.inj e).1)).1;subst ae;have ch:j<d.length:=(wU.1 t.o).1;have cg:(j:Int)<d.length:=by omega
    have a9:=Aa r;obtain⟨ab,ad,al⟩:=An (h.own j y t.o);have C:=Aa (h.own j y t.o);rw[al]at f1 C;have aD:=Aa al;have c1:=Ac h.b;have bN:=Ab h.b;obtain⟨b8,T⟩:=FG h.f l rfl;have av:=Aa T;have b9:=Ak T (j*2+1);have bE:Option.some l≠(Value.slice ab y.1.2.length ad).ownBlock:=EA C.o T (by decide);have ai:Option.some Cb≠(Value.slice ab y.1.2.length ad).ownBlock:=EA C.o h.b (by decide);have bF:Option.some g≠(Value.slice ab y.1.2.length ad).ownBlock:=Ms C.o aN;have a5:=Aa h.b;clear v h N r e al T aa;generalize a0:y.1.2.length=bW at*;have bi:=Aa a0;clear a0;go_wp2;go_region_law (first|(refine step_append_lies _ (by rfl) _ _ _ (by rfl) B1 120 bL _ 1 8 underlying110 bC b0 b1 b2 rfl (by decide) _ _ _ (by rfl) ((C.o.alloc _).drew) ⟨wc.heap.size,0,none⟩ 1 1 [.pointer (some ⟨k,0,none⟩)] (by rfl) (by rfl) (Cz _ _ _ _ (by simp)) (fun u aY=>by simp at aY;subst aY;rfl) (by decide) (by unfold maxLen;omega) (by omega) (by simp;omega) (wc.heap.size+1) (by simp) ?_;intro aL bl w5 aX c I bx;have am:=(c.block Cb (by simp;omega) ai).trans ((((wR wc.heap.size wc).alloc (wQ _) _).drew.block Cb bN).trans a5.o);have X:=(c.block l (by simp;omega) bE).trans ((((wR wc.heap.size wc).alloc (wQ _) _).drew.block l bQ).trans av.o);have bm:=Ac am;have bq:=Ab am;have bn:=(World.cell?_of_block (a:=⟨l,j*2+1,none⟩) (X.trans av.o.symm)).trans f1;have br:=Ab X;have bo:=Ak X (j*2+1);have bp:=(c.cell_far ⟨g,o+5,none⟩ (by simp;omega) (fun e=>bF e)).trans ((((wR wc.heap.size wc).alloc (wQ _) _).drew.cell (p:=⟨g,o+5,none⟩) (show g<wc.heap.size from bT)).trans M)));all_goals(
     have E:=Aa (au.o.part (v':=.slice (some ⟨aL,0,none⟩) (bW+1) bl) (ob:=.cells #[.pointer (some ⟨k,0,none⟩)] 120) (wV af bw) t.o a9.o (by rw[aD.o];exact⟨c.os,c.tape,c.output,c.size,c.block⟩) (by rw[bi.o];exact aX) (fun bM bD=>by
      rw[aD.o];have e:aL=bM:=xD bD;subst e;rcases I with q|q
      ·exact .inl q
      ·exact .inr (by omega)))
     clear c aX I bx am X bm bn bo bp bq br;go_end0;exact⟨rfl,((ar.o.mono ag).trans aq.o).trans E.o.2,_,_,E.o.1,by rw[Y.o,List.map_set]⟩))
end
end Go.Proofs.YtogdodlibkckkaaGreatDoor
