import Derived.Test.YtogdodlibkckkaaGreatDoorZ36
import Derived.Test.YtogdodlibkckkaaGreatDoorZ37
import Derived.Deep.RegionLaw
import Derived.Deep.DeepCutAuto
namespace Go.Proofs.YtogdodlibkckkaaGreatDoor
set_option maxHeartbeats 20000000
set_option maxRecDepth 100000
open Go.RowKit Tryz
open Go.Maps Tryz
open Go.ChangeMaps Tryz
theorem infoFl:(prog.info? 254).map (fun i=>(i.zero,i.size,i.bytes))=some (some (.agg #[.pointer none,.slice none 0 0]),2,32):=by kernel_rfl
theorem dW(L:List CX):L.map Hw=(L.map Prod.fst).map (fun f=>f.1.key):=by rw[List.map_map];rfl
theorem ZM(x:As)(L:List CX)(c:(Nat×Nat)×Value)(a:x.key∉L.map Hw):Dd x (L.map Prod.fst)=((L++[((x,[]),c)]).map Prod.fst).set L.length (x,[]++x.part.toList):=by
 rw[TM x _ (fun y b e=>a (by rw[dW];exact List.mem_map.2 ⟨y,b,e⟩))];rw[xY,List.set_append_right _ _ (by simp)];simp
theorem ZL(x:As)(L:List CX)(j:Nat)(y:CX)(a:L[j]?=some y)(b:y.1.1.key=x.key)(g:(L.map Hw).Nodup):Dd x (L.map Prod.fst)=(L.map Prod.fst).set j (y.1.1,y.1.2++x.part.toList):=by
 refine TO x _ j y.1 (by rw[xI,a];rfl) b (fun z h e=>?_);obtain⟨i,d,rfl⟩:=List.mem_iff_getElem.1 h;rw[List.length_take,xT]at d;have f:j<L.length:=(wU.1 a).1;have c:=(List.pairwise_iff_getElem.1 g) i j (by simp;omega) (by simp;omega) (by omega);apply c;rw[List.getElem_map,List.getElem_map];rw[wS f]at a;rw[xD a];show L[i].1.1.key=y.1.1.key;rw[b,<-e,List.getElem_take,List.getElem_map]
section
variable {w w0:World} {B0 B1 Cb S gO ko Mb Sb:Nat} {pp:List Nat} {vF:Value} {L:List CX} {seen:List Bool}
theorem ZO(bw:yG w0 w)(bu:w0.heap.size<=B1)(ah:B1<=w.heap.size)(A:CO w w0 B0 B1 Cb S gO ko Mb Sb pp vF L seen){g o:Nat}{x:As}(V:Fg w0 B0 pp g o x)(r:x.key.size<=4000)(a0:wt (L.map Prod.fst)<=10000000):Calls prog 216 #[.pointer (some ⟨Cb,0,none⟩),.pointer (some ⟨g,o,none⟩)] w fun e w'=>e=.returned (.tuple #[])/\Below B1 w w'/\∃bW aG,CO w' w0 B0 B1 Cb S gO ko Mb Sb pp bW aG seen/\aG.map Prod.fst=Dd x (L.map Prod.fst):=by
 obtain⟨bL,bC,bY,bZ,b0⟩:=info_parts infoFl;obtain⟨bM,bD,b1,b2,b3⟩:=info_parts infoPt;obtain⟨D,ak,al⟩:=A.m;obtain⟨aJ,F,bH⟩:=An A.f;subst bH;have cd:L.length<=10000000:=by have:=ZA (L.map Prod.fst);rw[xT]at this;omega
 obtain⟨b4,b6,b5,aK,ai,aV⟩:=(V.below bw).ex;have ap:w.cell? ⟨g,o+1,none⟩=some (.string x.key):=ai 1 _ rfl;have M:w.cell? ⟨g,o+5,none⟩=some (AO pp x.part):=ai 5 _ rfl;have aH:=Aa M;have bS:=wW w _ ap;have bA:g<w0.heap.size:=by
  obtain⟨_,_,_,_,R,_⟩:=V.ex;exact wW w0 _ (R 1 _ rfl)
 have aK:=Ac A.b;have bQ:=Ab A.b;obtain⟨c0,U,I⟩:=nE ak.drew x.key (by unfold maxLen;omega);have aP:=al.hasP x.key;have bd:=Aa aV.p;have aC:=Aa al;have aB:=Aa ak;have ay:=Aa A;have bi:=Aa a0;have bg:=Aa V;rw[aP]at U;have a3:=Aa I;generalize aS:AS x.key (L.map Hw)=bV at*;have az:=Aa aS;clear A al ak ai aV a0 V aP I aS M;go_enter func216,ntmps216;go_wp2;go_region;all_goals(
  clear U;have z:=(wR w.heap.size w).drew;have au:=Aa z;have s:=Aa (ay.o.below z);have aL:=Ac s.o.b;have cm:=Ab s.o.b;have a2:=Ah z ap;have bT:=wW _ _ a2;have aI:=Aa (Ah z aH.o);have ag:B1<=w.drew.heap.size:=wV ah z.size;have aa:=Aa (aB.o.below z);clear aK bQ ap bS z ay aH aB;generalize w.drew=W at*
  go_upto_if 19 with fail
  go_cut [4] (fun v4 wc=>∃(j l F:Nat) (d:List CX) (y:CX),v4=.int .i64 j/\Below B1 W wc/\CO wc w0 B0 B1 Cb S gO ko Mb Sb pp (.slice (some ⟨l,0,none⟩) d.length F) d seen/\d[j]?=some y/\d.length<=10000001/\y.1.2.length<=10000000/\Dd x (L.map Prod.fst)=(d.map Prod.fst).set j (y.1.1,y.1.2++x.part.toList))
  case first=>
   cases bV
   ·have aU:x.key∉L.map Hw:=fun e=>by have:=az.o;rw[(FD x.key _).2 e]at this;cases this
    have aA:=Aa aU;have bI:(Lit.int .i64 (L.length:Int)).wf=true:=by simp[Lit.wf,IntKind.min,IntKind.max,IntKind.bits,IntKind.signed];omega
    obtain⟨O,U,aX,K⟩:=aa.o.drew.update Ci underlying65 (by unfold maxLen;omega) (NC x.key (by unfold maxLen;omega)) (plainElem_int (H:=Unit) underlying3 bI);have aD:=Aa (aC.o.snoc x.key);rw[xT]at aD;have bc:=Aa aX;have a8:=Aa K;have G:=s.o.below (wR W.heap.size W).drew;have a7:=Aa G;have bv:Cb≠Mb:=Kr aa.o s.o.b;have J:=(K.block Cb (Ab G.b) (fun e=>bv (xD e))).trans G.b;have a4:=Aa J;have c4:=Ac J;have bP:=Ab J;have bK:=K.size;have ax:=Aa (show O.ownsRow B1 254 2 (.slice aJ L.length F) L.length (L.flatMap Kf)from ID G.f (fun k b8 _ r=>(K.block k (Ab r) (fun e=>Kr aa.o (k:=k) r (xD e))).trans r));have cc:B1<=O.heap.size:=wV ag bK;have aj:Option.some Cb≠(Value.slice aJ L.length F).ownBlock:=EA ax.o J (by decide);clear aU aX K G J;go_wp2;go_region;all_goals(
     clear U aL;go_wp2_with (at_builtin;refine wpList_append_lies _ rfl _ _ 251 rfl B1 254 bL _ 2 32 underlying251 bC bY bZ b0 rfl (by decide) _ _ _ rfl (ax.o.alloc _) ⟨O.heap.size,0,none⟩ 1 1 [.pointer (some ⟨g,o,none⟩),.slice none 0 0] rfl rfl (Cz _ _ _ _ (by simp)) (PN rfl rfl) (by decide) (by unfold maxLen;omega) (by omega) (by simp;omega) (O.heap.size+1) (by simp) ?_;intro bt bl cn aW c bJ bB;have P:=(c.block Cb (by simp;omega) aj).trans ((AJ _ _ _ bP).trans a4.o);have ce:=Ac P;have cf:=Ak P;have ck:=Ab P;have bf:=Aa aW;have a9:=Aa c;clear P aW c);have E:=Aa (a7.o.push (wV ag (wR W.heap.size W).drew.size) bg.o aA.o a8.o bc.o aD.o a9.o bf.o);clear bJ bB;go_meet;refine⟨L.length,bt,bl,L++[((x,[]),(g,o),.slice none 0 0)],((x,[]),(g,o),.slice none 0 0),rfl,?_,?_,by simp,by simp;omega,by simp,ZM x L _ aA.o⟩
     ·exact((wR B1 W).drew).trans E.o.2
     ·rw[xJ]
      exact E.o.1)
   ·have aT:x.key∈L.map Hw:=(FD x.key _).1 az.o
    obtain⟨j,B,aQ⟩:=aC.o.val x.key aT;rw[xI]at B;obtain⟨y,X,aR⟩:=yC.1 B;have R:c0=j:=by
     have:=a3.o;rw[aQ]at this;simp only[DataW.lit.injEq,Lit.int.injEq,true_and]at this;exact this.symm
    have a5:=Aa R;obtain⟨l,bk,e, -⟩:=s.o.fld X;have af:=(Value.slice.inj e).1;subst af;have aF:=Aa X;have bb:=Aa aR;have bh:=Aa (Tq (L.map Prod.fst) y.1 (List.mem_map.2 ⟨y,wT X,rfl⟩));clear B aQ X aR R aT e;go_wp2;go_meet;exact⟨j,l,F,L,y,by rw[a5.o],wR _ _,s.o,aF.o,by omega,by have:=bh.o;have:=bi.o;omega,ZL x L j y aF.o bb.o s.o.nd⟩
  case rest=>
   obtain⟨j,l,b7,d,y,rfl,Q,h,B,cj,cl,aN⟩:=hcut;have N:=Aa aN;have av:=Aa h;have t:=Aa B;have ar:=Aa Q;have cg:g<W.heap.size:=bT;have aO:g<B1:=xA bA bu;have aq:wc.cell? ⟨g,o+5,none⟩=some (AO pp x.part):=(Q.cell (p:=⟨g,o+5,none⟩) aO).trans aI.o;have ab:=Aa aq;have bU:=wW wc _ aq;have bx:=Q.size;clear aN Q aI B aq aL a2;cases v:x.part with
   |none=>
    have M:wc.cell? ⟨g,o+5,none⟩=some (.pointer none):=by have:=ab.o;rw[v]at this;exact this
    have Z:=Aa (show Dd x (L.map Prod.fst)=d.map Prod.fst from by
     rw[N.o,v];simp only[Option.toList_none,List.append_nil];refine List.ext_getElem? (fun n=>?_);rw[List.getElem?_set];split
     ·rename_i e
      subst e;rw[xI,t.o];split
      ·rfl
      ·rename_i q
       exact absurd (by rw[xT];exact(wU.1 t.o).1) q
     ·rfl)
    clear v h N;go_wp2;go_end0;exact⟨rfl,(au.o.mono ah).trans ar.o,_,d,av.o,Z.o.symm⟩
   |some i=>
    obtain⟨k,r⟩:∃k,pp[i]?=some k:=⟨_,wS (bd.o i v)⟩;have M:wc.cell? ⟨g,o+5,none⟩=some (.pointer (some ⟨k,0,none⟩)):=by have:=ab.o;rw[v]at this;rw[this];simp[AO,r]
    have Z:=Aa (show Dd x (L.map Prod.fst)=(d.map Prod.fst).set j (y.1.1,y.1.2++[i])from by rw[N.o,v];rfl);obtain⟨cb,bk,e,bR, -,f1⟩:=h.fld t.o;have af:=(Addr.mk.inj (xD (Value.slice.inj e).1)).1;subst af;have ci:j<d.length:=(wU.1 t.o).1;have ch:(j:Int)<d.length:=by omega
    have ba:=Aa r;obtain⟨ad,ae,am⟩:=An (h.own j y t.o);have C:=Aa (h.own j y t.o);rw[am]at f1 C;have aE:=Aa am;have c1:=Ac h.b;have bO:=Ab h.b;obtain⟨b9,T⟩:=FG h.f l rfl;have aw:=Aa T;have ca:=Ak T (j*2+1);have bF:Option.some l≠(Value.slice ad y.1.2.length ae).ownBlock:=EA C.o T (by decide);have aj:Option.some Cb≠(Value.slice ad y.1.2.length ae).ownBlock:=EA C.o h.b (by decide);have bG:Option.some g≠(Value.slice ad y.1.2.length ae).ownBlock:=Ms C.o aO;have a6:=Aa h.b;clear v h N r e am T ab;generalize a1:y.1.2.length=bX at*;have bj:=Aa a1;clear a1;go_wp2;go_region_law (first|(refine step_append_lies _ (by rfl) _ _ _ (by rfl) B1 120 bM _ 1 8 underlying110 bD b1 b2 b3 rfl (by decide) _ _ _ (by rfl) ((C.o.alloc _).drew) ⟨wc.heap.size,0,none⟩ 1 1 [.pointer (some ⟨k,0,none⟩)] (by rfl) (by rfl) (Cz _ _ _ _ (by simp)) (fun u aZ=>by simp at aZ;subst aZ;rfl) (by decide) (by unfold maxLen;omega) (by omega) (by simp;omega) (wc.heap.size+1) (by simp) ?_;intro aM bm w5 aY c I bz;have ao:=(c.block Cb (by simp;omega) aj).trans ((((wR wc.heap.size wc).alloc (wQ _) _).drew.block Cb bO).trans a6.o);have Y:=(c.block l (by simp;omega) bF).trans ((((wR wc.heap.size wc).alloc (wQ _) _).drew.block l bR).trans aw.o);have bn:=Ac ao;have br:=Ab ao;have bo:=(World.cell?_of_block (a:=⟨l,j*2+1,none⟩) (Y.trans aw.o.symm)).trans f1;have bs:=Ab Y;have bp:=Ak Y (j*2+1);have bq:=(c.cell_far ⟨g,o+5,none⟩ (by simp;omega) (fun e=>bG e)).trans ((((wR wc.heap.size wc).alloc (wQ _) _).drew.cell (p:=⟨g,o+5,none⟩) (show g<wc.heap.size from bU)).trans M)));all_goals(
     have E:=Aa (av.o.part (v':=.slice (some ⟨aM,0,none⟩) (bX+1) bm) (ob:=.cells #[.pointer (some ⟨k,0,none⟩)] 120) (wV ag bx) t.o ba.o (by rw[aE.o];exact⟨c.os,c.tape,c.output,c.size,c.block⟩) (by rw[bj.o];exact aY) (fun bN bE=>by
      rw[aE.o];have e:aM=bN:=xD bE;subst e;rcases I with q|q
      ·exact .inl q
      ·exact .inr (by omega)))
     clear c aY I bz ao Y bn bo bp bq br bs;go_end0;exact⟨rfl,((au.o.mono ah).trans ar.o).trans E.o.2,_,_,E.o.1,by rw[Z.o,List.map_set]⟩))
end
end Go.Proofs.YtogdodlibkckkaaGreatDoor
