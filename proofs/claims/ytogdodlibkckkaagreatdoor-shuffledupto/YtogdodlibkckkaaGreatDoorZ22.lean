import Derived.Test.YtogdodlibkckkaaGreatDoorZ21
namespace Go.Proofs.YtogdodlibkckkaaGreatDoor
set_option maxHeartbeats 20000000
set_option maxRecDepth 100000
open Go.RowKit Tryz
attribute [local go_sem ↓] Go.wp_at_zero Go.wp_at_succ
def Kh(R:yF->yF->Bool)(a:List Am)(b:List yF)(n t:yF):Bool:=match a[(Af (a.map Am.name) n).toNat]? with
 |some f=>decide (0<=Af (a.map Am.name) n)&&(!decide (f.arg=De)&&(decide (Af b n<0)&&(JL t&&Dh R f.ty (CZ t))))
 |none=>false
theorem info159:(prog.info? 159).map (fun i=>(i.zero,i.size,i.bytes))=some (some (.agg #[.pointer none,.string ⟨#[]⟩,.int .i64 0,.int .i64 0,.string ⟨#[]⟩,.slice none 0 0]),6,80):=by kernel_rfl
section
variable {w0:World} {S:Nat} {vR vO vI vU vN:Value} {LR:List (Au×Value)} {LO:List AX} {LI:List (At×Value)} {LU:List (Aw×Value)} {names:List yF} {T M gO B1 gR cR:Nat} {rows:List AE}
theorem fY(ag:SV w0 S vR vO vI vU vN LR LO LI LU names)(m:∃c,vO=.slice (some ⟨gO,0,none⟩) LO.length c)(W:World)(ah:yG w0 W)(hF:FS W T S M gO w0.heap.size B1 gR cR rows)(b1:w0.heap.size<=B1)(az:∀ak∈rows,ak.k<LO.length)(i rk:Nat)(a1:yF)(aM:Option Addr)(aN:Nat)(z:List BU)(x:AX)(aj:rows[i]?=some ⟨rk,a1,.slice aM z.length aN,z⟩)(aY:LO[rk]?=some x)(b2:z.length<=999999)(n t:yF)(ca:t.size<=2000000)(cd:Fq 1603 (CZ t)):
 Calls prog 91 #[.pointer (some ⟨T,0,none⟩),.pointer (some ⟨gR,i*3,none⟩),.agg #[.string n,.string t]] W fun e w'=>e=.returned (.bool (Kh (DS (LO.map Prod.fst) (LI.map iN) (LU.map uN) (LU.map Prod.fst) rows) x.1.fields (z.map CC) n t))/\yG w0 w'/\(Kh (DS (LO.map Prod.fst) (LI.map iN) (LU.map uN) (LU.map Prod.fst) rows) x.1.fields (z.map CC) n t=true->∃v' c,x.1.fields[(Af (x.1.fields.map Am.name) n).toNat]?=some c.f/\c.f.name=n/\c.t=t/\FS w' T S M gO w0.heap.size B1 gR cR (rows.set i ⟨rk,a1,v',z++[c]⟩)):=by
 obtain⟨cg,b3,cn,co,cp⟩:=info_parts info159;obtain⟨cB,cu,bH,bP,_,cl⟩:=hF.s.at aj;have aP:=(Addr.mk.inj (xD (Value.slice.inj bH).1)).1;subst aP;obtain⟨cC,cv,aX,bp⟩:=ag.o.cell (fun _=>rfl) rk x aY;obtain⟨c0,bG⟩:=id m;rw[bG]at aX;have aP:=(Addr.mk.inj (xD (Value.slice.inj aX).1)).1;subst aP;have bN:w0.cell? ⟨gO,rk*4+1,none⟩=some x.2.1:=bp 1 _ rfl;obtain⟨bq,cK,_,_,_⟩:=ag.o.ok x (wT aY);obtain⟨ap,aO,aV⟩:=bq.row;have aA:ap.map fN=x.1.fields.map Am.name:=Ku ap _ aO;have cI:ap.length=x.1.fields.length:=by rw[<-aO,xT]
 have bE:Dc w0 x.2.1 6 (x.1.fields.map Am.name):=by rw[<-aA];exact aV.rowed fN (fun _=>rfl) (fun _=>rfl)
 have a7:=Aa (fun h (A:yG W h)=>OT h gO (rk*4) x.2.1 n (x.1.fields.map Am.name) (Ah (bT ah A) bN) (bE.below (bT ah A)) (by simp;omega));have aC:=Aa hF;have N:=Aa ah;have cq:=Aa ag;have a8:=Aa (hF.cells aj);have cP:gR<W.heap.size:=xA hF.g hF.b;have cH:=hF.b;have am:=Aa (Kh.eq_1 (DS (LO.map Prod.fst) (LI.map iN) (LU.map uN) (LU.map Prod.fst) rows) x.1.fields (z.map CC) n t);generalize bm:DS (LO.map Prod.fst) (LI.map iN) (LU.map uN) (LU.map Prod.fst) rows=R at*;have ba:=Aa (show∀h,yG W h->QG h T R from fun h A Y bn id c hid=>by
  rw[<-bm];exact nJ (ag.below (bT (bT ah A) bn)) m ((hF.below (bT A bn)).s) az id c hid)
 have aF:=Aa (show(Af (x.1.fields.map Am.name) n<0->AC x.2.1 6 (Af (x.1.fields.map Am.name) n)=.pointer none)/\(¬Af (x.1.fields.map Am.name) n<0->∃C j f u,AC x.2.1 6 (Af (x.1.fields.map Am.name) n)=.pointer (some ⟨C,j*6,none⟩)/\x.1.fields[(Af (x.1.fields.map Am.name) n).toNat]?=some f/\f.name=n/\C<w0.heap.size/\Cn w0 C (j*6) f u/\Bx w0 S u f.ty)from⟨fun e=>by unfold AC;rw[xH e],fun e=>by
  obtain⟨j,y,aT,bM,ce,_⟩:=Cu fN ap n (by rw[aA];exact e);obtain⟨C,cw,cc,X,aB⟩:=aV.fldAt j y bM;rw[aA]at aT;refine⟨C,j,y.1,y.2,by rw[aT,cc];unfold AC;rw[xG (by omega)];rfl,by rw[aT,xS,<-aO,xI,bM];rfl,ce,wW w0 ⟨C,j*6,none⟩ X.c0,X,aB⟩⟩)
 have cO:i<rows.length:=(wU.1 aj).1;have cQ:=hF.s.l;have aE:=Aa aj;generalize Kh R x.1.fields (z.map CC) n t=q at*;generalize AC x.2.1 6 (Af (x.1.fields.map Am.name) n)=cj at*;generalize Af (x.1.fields.map Am.name) n=aZ at*;clear ag m ah hF bm bG bH aX bp bN bq aV bE aY aA aj az;go_enter func91,ntmps91;go_upto_region 1 with fail;have aQ:=wX W (.cells #[.string n,.string t] 41);have hb:=bA (wR W.heap.size W) (.cells #[.string n,.string t] 41);generalize W.alloc (.cells #[.string n,.string t] 41)=ad at*;have af:=Ac aQ;have bw:=Ab aQ;have a2:=Aa hb;have H:=Aa (fun V (L:yG ad V)=>xZ L (xZ (fun k=>(L.cell (p:=⟨W.heap.size,k,none⟩) bw).trans (af k)) (Ah L (Ah hb bP))));clear aQ hb af bP;go_cut [7] (fun v7 wc=>v7=cj/\yG ad wc)
 case first=>
  go_region_held3 (fun V=>yG ad V/\(∀k,V.cell? ⟨W.heap.size,k,none⟩=(#[.string n,.string t]:Array Value)[k]?)/\V.cell? ⟨gR,i*3,none⟩=some (.pointer (some ⟨gO,rk*4,none⟩)))
   (first|exact H.o _ (wR _ _).drew|exact H.o _ (bT I F))
   (first|(go_at_call 142;obtain⟨I, -⟩:= ‹yG ad _/\_›;refine(a7.o _ (bT a2.o I)).mono ?_;rintro _ w2 ⟨rfl,F⟩))
  all_goals(obtain⟨I, -⟩:= ‹yG ad _/\_›;(try go_wp2_with fail);go_meet;exact⟨rfl,I⟩)
 case rest=>
  obtain⟨rfl,aw⟩:=hcut;obtain⟨_,af,_⟩:=H.o _ aw;have G:=Aa (bT a2.o aw);have bC:W.heap.size<wc.heap.size:=xA bw aw.size;clear aw H a7;have ab:=Aa (show∀h,yG W h->q=false->yG w0 h/\(q=true->∃v' c,x.1.fields[aZ.toNat]?=some c.f/\c.f.name=n/\c.t=t/\FS h T S M gO w0.heap.size B1 gR cR (rows.set i ⟨rk,a1,v',z++[c]⟩))from fun h A e=>⟨bT N.o A,fun bi=>by rw[e]at bi;cases bi⟩);by_cases bt:aZ<0
  ·have e:=aF.o.1 bt
   subst e;have B:=Aa (show q=false from by rw[am.o,wY (by omega)];split<;>rfl);go_wp2;go_ret;exact⟨Al B.o.symm,ab.o _ G.o B.o⟩
  obtain⟨C,j,f,u,e,aS,br,ay,X,aB⟩:=aF.o.2 bt;subst e;rw[aS,xM (show 0<=aZ by omega)]at am;have aa:=Aa (show q=(!decide (f.arg=De)&&(decide (Af (z.map CC) n<0)&&(JL t&&Dh R f.ty (CZ t))))from am.o);clear am;have O:=Aa (fun h (A:yG W h)=>Tc (w:=h) (X.below' (fun k=>(bT N.o A).cell (p:=⟨C,k,none⟩) ay)));have a5:=Aa X;have aJ:=Aa aB;have a6:=Aa (xZ aS br);clear aF X aB aS br;cases ar:decide (f.arg=De)
  rotate_left
  ·rw[ar]at O aa
   have B:=Aa (show q=false from aa.o);clear ar;go_wp2_with fail;refine(O.o _ G.o).mono ?_;rintro _ w' ⟨rfl,E⟩;have E:=E.symm;subst E;go_wp2;go_ret;exact⟨Al B.o.symm,ab.o _ G.o B.o⟩
  rw[ar]at O aa;have ao:=Aa (show q=(decide (Af (z.map CC) n<0)&&(JL t&&Dh R f.ty (CZ t)))from aa.o);clear aa;have aH:=Aa (fun h (A:yG W h)=>XK h gR (i*3) (.slice aM z.length aN) n z (Ah A cl) (a8.o.below A) (by omega));clear ar a8;by_cases aU:Af (z.map CC) n<0
  rotate_left
  ·have B:=Aa (show q=false from by rw[ao.o,wY aU];rfl)
   generalize Af (z.map CC) n=pl at*;have b8:decide ((0:Int)<=pl)=true:=by simp;omega
   go_wp2_with fail;refine(O.o _ G.o).mono ?_;rintro _ w' ⟨rfl,E⟩;have E:=E.symm;subst E;go_wp2_with fail;refine(aH.o _ G.o).mono ?_;rintro _ w2 ⟨rfl,F⟩;go_wp2;go_ret;exact⟨Al B.o.symm,ab.o _ (bT G.o F) B.o⟩
  rw[xM aU]at ao;have aI:=Aa (show q=(JL t&&Dh R f.ty (CZ t))from ao.o);clear ao;generalize Af (z.map CC) n=pl at*;have b8:decide ((0:Int)<=pl)=false:=by simp;omega
  have bb:=Aa (fun h=>sD t h (by unfold maxLen;omega));clear aU;have cr:=Aa aJ.o.ptr;obtain⟨a0,rfl⟩:=aJ.o.ptr;go_wp2_with fail;refine(O.o _ G.o).mono ?_;rintro _ w' ⟨rfl,E⟩;have E:=E.symm;subst E;go_wp2_with fail;refine(aH.o _ G.o).mono ?_;rintro _ w2 ⟨rfl,F⟩;have bd:=fun k=>(F.cell (p:=⟨W.heap.size,k,none⟩) bC).trans (af k);have bx:=xA bC F.size;have a3:=Aa (bT G.o F);clear af F aH O;go_wp2_with fail;refine(bb.o _).mono ?_;rintro _ w3 ⟨d,rfl,ae,bI⟩;unfold Ct;have bf:=fun k=>(ae.cell (p:=⟨W.heap.size,k,none⟩) bx).trans (bd k);have bz:=xA bx ae.size;have cS:=a3.o.size;have cT:=ae.size;have aK:=Aa bI;have a4:=Aa (bT a3.o ae);clear bd ae bI bb;generalize JL t=ok at*;cases ok
  ·have B:=Aa (show q=false from aI.o)
   go_wp2;go_quiet (fail);go_wp2;go_ret;exact⟨Al B.o.symm,ab.o _ (below_drewN (bA a4.o _) _) B.o⟩
  have a9:=Aa (show q=Dh R f.ty (CZ t)from aI.o);clear aI;have bU:=Aa (aK.o rfl).2;have bL:=(aK.o rfl).1;go_upto_region 5 with fail;have aR:=wX w3 (.cells #[.int .i64 d.sh,.int .i64 d.n,.string d.s,.slice d.la d.ln d.lc] 157);have Q:=bA (wR w3.heap.size w3) (.cells #[.int .i64 d.sh,.int .i64 d.n,.string d.s,.slice d.la d.ln d.lc] 157);generalize w3.alloc (.cells #[.int .i64 d.sh,.int .i64 d.n,.string d.s,.slice d.la d.ln d.lc] 157)=J at*;have al:=Aa (bT a4.o Q);have bu:=Ab aR;have c4:=Ac aR;have aL:=Aa (bL.frame (w':=J) (B':=fun g=>w2.heap.size<=g/\g<w3.heap.size) (fun g m o=>Q.cell (p:=⟨g,o,none⟩) m.2) (fun g m=>m));have bg:=fun k=>(Q.cell (p:=⟨W.heap.size,k,none⟩) bz).trans (bf k);have bB:=xA bz Q.size;have aW:=Q.size;have bj:=(bT N.o al.o).cell (p:=⟨C,j*6+5,none⟩) ay;have aD:=Aa (fun h (A:yG J h)=>qP (ba.o J al.o) f.ty h (.pointer (some ⟨a0,0,none⟩)) d (CZ t) 1603 1603 S A (aJ.o.stays (Ap.of_below (bT (bT N.o al.o) A))) (aL.o.frame (fun g m o=>A.cell (p:=⟨g,o,none⟩) (xA m.2 aW)) (fun g m=>xA m.2 (wV aW A.size))) cd);unfold Ct at aD;have H:=Aa (fun V (L:yG J V)=>xZ L (xZ (fun k=>(L.cell (p:=⟨w3.heap.size,k,none⟩) bu).trans (c4 k)) (Ah L (bj.trans a5.o.c5))));generalize Dh R f.ty (CZ t)=bO at*;clear aR Q bL aK bf c4 bj;go_cut [49] (fun v49 cm=>v49=.bool (!bO)/\yG J cm)
  case first=>
   go_region_held3 (fun V=>yG J V/\(∀k,V.cell? ⟨w3.heap.size,k,none⟩=(#[.int .i64 d.sh,.int .i64 d.n,.string d.s,.slice d.la d.ln d.lc]:Array Value)[k]?)/\V.cell? ⟨C,j*6+5,none⟩=some (.pointer (some ⟨a0,0,none⟩)))
    (first|exact H.o _ (wR _ _).drew|exact H.o _ (bT I F))
    (first|(go_at_call 146;obtain⟨I, -⟩:= ‹yG J _/\_›;refine(aD.o _ I).mono ?_;rintro _ w5 ⟨rfl,F⟩))
   all_goals(obtain⟨I, -⟩:= ‹yG J _/\_›;(try go_wp2_with fail);go_meet;exact⟨rfl,I⟩)
  case rest=>
   obtain⟨rfl,U⟩:=hcut;obtain⟨_,bY,_⟩:=H.o _ U;have Z:=Aa (bT al.o U);cases bO
   ·have B:=Aa (show q=false from a9.o)
    go_wp2;go_ret;exact⟨Al B.o.symm,ab.o _ Z.o B.o⟩
   ·have bV:=Aa (show q=true from a9.o)
    have bZ:=fun k=>(U.cell (p:=⟨W.heap.size,k,none⟩) bB).trans (bg k);have P:=aC.o.below Z.o;have bS:=Aa P;obtain⟨cD,cx,bK,_,_,ck⟩:=P.s.at aE.o;have eq:=(Addr.mk.inj (xD (Value.slice.inj bK).1)).1;subst eq;have aG:=Aa (P.c i _ aE.o);have bW:=Aa (aL.o.frame (w':=wc) (B':=fun g=>w2.heap.size<=g/\g<w3.heap.size) (fun g m o=>U.cell (p:=⟨g,o,none⟩) (xA m.2 aW)) (fun g m=>m));have bF:=U.size;have cU:W.heap.size<=wc.heap.size:=Z.o.size;have bv:w3.heap.size<wc.heap.size:=xA bu bF;have b5:W.heap.size<wc.heap.size:=xA bB bF;obtain⟨aq,ax⟩:∃aq,wc.heap[gR]?=some (.cells aq 97 (0,0)):=by
     rcases P.s.r.2 with⟨y,_⟩|⟨g,cap,aq,cb,_,bs,_⟩
     ·cases y
     ·have b0:=(Addr.mk.inj (xD (Value.slice.inj cb).1)).1
      rw[<-b0]at bs;exact⟨aq,bs⟩
    have bR:=Aa ax;have cA:=Ak ax (i*3+2);have b6:gR<wc.heap.size:=Ab ax;have cM:=P.g;have b7:Option.some gR≠(Value.slice aM z.length aN).ownBlock:=fun e=>by have:=Mr aG.o gR e.symm;omega
    have cJ:z.length<=999999:=b2;clear U H P ax aD ba aL bg bK;go_wp2;go_region_law (first
     |(refine step_append_lies _ (by rfl) _ _ _ (by rfl) B1 159 cg _ 6 80 underlying95 b3 cn co cp rfl (by decide) _ _ _ (by rfl) (bl.alloc _) ⟨w6.heap.size,0,none⟩ 1 1 [.pointer (some ⟨C,j*6,none⟩),.string t,.int .i64 d.sh,.int .i64 d.n,.string d.s,.slice d.la d.ln d.lc] (by rfl) (by rfl) (Cz _ _ _ _ (by simp)) (PO rfl rfl rfl rfl rfl rfl) (by decide) (by unfold maxLen;omega) (by omega) (by simp;omega) (w6.heap.size+1) (by simp) ?_;intro g cap w7 bD K bo cL;have av:=(K.block gR (by simp;omega) b7).trans ((AJ _ _ _ ci).trans au);have cy:=(World.cell?_of_block (a:=⟨gR,i*3+2,none⟩) (av.trans au.symm)).trans bh;have cz:=Ak av (i*3+2);have cV:=Ab av)
     |(go_simp;go_at_call 141;refine(Re t _ ca).mono ?_;rintro _ w6 ⟨rfl,bc⟩;have D:yG wc w6:=(by first|exact bc|exact(wR _ _).drew.trans bc);have bl:=AT aG.o D;have bh:=Ah D ck;have ct:=(fun k=>(D.cell (p:=⟨W.heap.size,k,none⟩) b5).trans (bZ k));have cs:=(fun k=>(D.cell (p:=⟨w3.heap.size,k,none⟩) bv).trans (bY k));have au:=(D.block gR b6).trans bR.o;have ci:=Ab au;have cW:=D.size))
    all_goals(
     have bk:=bS.o.below D;have bJ:Ba w6 (fun k=>B1<=k/\k<w6.heap.size/\∀ak∈rows,ak.v.ownBlock≠some k) 1603 d (pv (CZ t)):=bW.o.frame (fun g m o=>D.cell (p:=⟨g,o,none⟩) (Nat.lt_trans m.2 bv)) (fun g m=>by
      have cE:w2.heap.size<=g:=m.1;have cF:g<w3.heap.size:=m.2;refine⟨by omega,by omega,fun ak b9 e=>?_⟩;obtain⟨ch,b4⟩:=List.getElem?_of_mem b9;have:=Ln (aC.o.c ch ak b4) g e;omega)
     have bX:=Aa (bk.push (c:=⟨C,j*6,f,.pointer (some ⟨a0,0,none⟩),t,d⟩) aE.o K bD (bo.imp (fun e=>e) (fun e=>by omega)) ⟨ay,a5.o.below' (fun k=>(bT (bT N.o Z.o) D).cell (p:=⟨C,k,none⟩) ay)⟩ b1 bJ bU.o);have bQ:=Aa (show yG w0 (w7.setCell ⟨gR,i*3+2,none⟩ (.slice (some ⟨g,0,none⟩) (z.length+1) cap))from by
      have ai:=bT (bT N.o Z.o) D;have cf:=K.size;simp at cf;have cG:=ai.size;have cN:w0.heap.size<=gR:=Mr aC.o.s.r gR rfl;exact⟨K.os.trans ai.os,K.tape.trans ai.tape,K.output.trans ai.output,by simp[World.setCell];omega,fun k az=>(xC _ _ _ _ (show k≠gR by omega)).trans ((K.block k (by simp;omega) (fun e=>by have:=Mr aG.o k e.symm;omega)).trans ((AJ _ _ _ (by omega)).trans (ai.block k az)))⟩)
     clear K bD bl bo av bk bJ D au bh;go_wp2;go_ret;exact⟨Al bV.o.symm,bQ.o,fun _=>⟨_,_,a6.o.1,a6.o.2,rfl,bX.o⟩⟩)
end
def EH(s:St):Prop:=∀t∈s.getD [],Lm t
theorem LC{s:St}(a:EH s):EH (tl s):=by
 match s with
 |none=>exact a
 |some []=>exact a
 |some (x::l)=>exact fun t b=>a t (yA _ b)
theorem MG:EH none:=fun t a=>by simp at a
theorem Zn{s:St}(a:EH s)(b:Bool):EH (mustT s b):=by
 unfold mustT;split
 ·exact LC a
 ·exact MG
theorem wF{s:St}(a:EH s):EH (Il s):=by
 unfold Il;split
 ·exact LC a
 ·exact MG
theorem Vl{s:St}(a:EH s):(hd s).s.size<=4000:=by
 match s with
 |none=>exact wZ _
 |some []=>exact wZ _
 |some (x::l)=>exact(a x (yB ..)).2.2.1
theorem Wc{s:St}(b:EH s):(FA s).sh<=6/\(FA s).s.size<=4000:=by
 have d:=Vl b;have a:ByteArray.size ⟨#[]⟩<=4000:=wZ _;unfold FA;split
 ·exact⟨show 1<=6 by decide,a⟩
 ·split
  ·rename_i c
   refine⟨show 2<=6 by decide,?_⟩;have:(hd s).k=3:=(Yt _).1 c;show(rs (hd s)).size<=4000;unfold rs;rw[xH (by omega)];exact d
  ·split
   ·exact⟨by decide,a⟩
   ·split
    ·exact⟨by decide,a⟩
    ·exact⟨wZ _,a⟩
theorem PJ:∀(f:Nat),(∀(d:Nat) (s:St),EH s->ln s<=801->Fq f (Bb f d s).1/\EH (Bb f d s).2)/\∀(d:Nat) (s:St),EH s->ln s<=801->(Bj f d s).1.length<=ln s/\(∀r∈(Bj f d s).1,Fq f r)/\EH (Bj f d s).2
 |0=>⟨fun d s h _=>by rw[Bb];exact⟨⟨wZ _,wZ _,rfl⟩,h⟩,fun d s h _=>by rw[Bj];exact⟨wZ _,fun r g=>by simp at g,h⟩⟩
 |f+1=>by
  obtain⟨z,t⟩:=PJ f;have up:∀(k:Nat) (r:RV),Fq k r->Fq (k+1) r:=fun k=>by
   induction k with
   |zero=>intro r g;obtain⟨sh,n,s,l⟩:=r;obtain⟨m,p,i⟩:=g;exact⟨m,p,by rw[i];simp,fun r g=>by rw[i]at g;simp at g⟩
   |succ k y=>intro r g;obtain⟨sh,n,s,l⟩:=r;obtain⟨m,p,i,v⟩:=g;exact⟨m,p,i,fun r g=>y r (v r g)⟩
  refine⟨fun d s h j=>?_,fun d s h j=>?_⟩
  ·rw[Bb]
   split
   ·exact⟨⟨(Wc h).1,(Wc h).2,by simp,fun r g=>by simp at g⟩,LC h⟩
   ·split
    ·exact⟨⟨by decide,wZ _,by simp,fun r g=>by simp at g⟩,LC h⟩
    ·split
     ·refine⟨⟨by decide,?_,by simp,fun r g=>by simp at g⟩,wF (LC h)⟩
      unfold tx;split
      ·exact Vl (LC h)
      ·exact wZ _
     ·have hs:EH (if 10<=d then none else mustT s (Ae s 12)):=by split;exact MG;exact Zn h _
      have x:ln (if 10<=d then none else mustT s (Ae s 12))<=ln s:=by split;exact wZ _;exact DA _ _
      obtain⟨a,b,c⟩:=t d _ hs (wV x j);exact⟨⟨by decide,wZ _,by omega,b⟩,c⟩
  ·rw[Bj]
   split
   ·rename_i e;subst e;exact⟨wZ _,fun r g=>by simp at g,h⟩
   ·split
    ·exact⟨wZ _,fun r g=>by simp at g,LC h⟩
    ·rename_i q _
     obtain⟨a,b⟩:=z (d+1) s h j;have w:=(RU f).1 (d+1) s;obtain⟨A,u,c2⟩:=t d _ b (wV w j);refine⟨?_,fun r g=>?_,c2⟩
     ·rw[xU]
      cases f with
      |zero=>rw[Bj];cases s with|none=>exact absurd rfl q|some l=>simp[ln]
      |succ f=>have:=Wd f (d+1) s q;omega
     ·rcases yE.1 g with e|e
      ·rw[e];exact up _ _ a
      ·exact up _ _ (u r e)
theorem Sl(x:yF):Fq 1603 (CZ x):=by
 have a:EH (Ad x)/\ln (Ad x)<=801:=by
  cases c:Ad x with
  |none=>exact⟨MG,wZ _⟩
  |some b=>have:=Nn x b c;exact⟨this.1,by show b.length+1<=801;omega⟩
 exact((PJ 1603).1 0 (Ad x) a.1 a.2).1
def Ks(R:yF->yF->Bool)(a:List Am):List yF->List IN->Bool
 |_,[]=>true
 |b,c::cs=>Kh R a b c.1 c.2&&Ks R a (b++[c.1]) cs
def Hf(R:yF->yF->Bool)(objs:List Aq)(y:AY):Bool:=match objs[(Af (objs.map Aq.name) y.1).toNat]? with
 |some o=>Ks R o.fields [] y.2.2
 |none=>false
structure MJ(objs:List Aq)(r:AE)(l:List IN):Prop where
 e:r.cs.map (fun c=>(c.f.name,c.t))=l
 f:∀c∈r.cs,∀o,objs[r.k]?=some o->o.fields[(Af (o.fields.map Am.name) c.f.name).toNat]?=some c.f
theorem sQ(objs:List Aq)(ifs uns:List yF)(us:List Aw){rows d:List AE}(f:rows.map (fun r=>(r.k,r.id))=d.map (fun r=>(r.k,r.id))):DS objs ifs uns us rows=DS objs ifs uns us d:=by
 funext c id;have g:rows.map AE.id=d.map AE.id:=by
  have:=congrArg (List.map Prod.snd) f;rw[List.map_map,List.map_map]at this;exact this
 have h:∀j:Nat,(rows[j]?).map AE.k=(d[j]?).map AE.k:=fun j=>by
  have:=congrArg (fun l:List (Nat×yF)=>(l[j]?).map Prod.fst) f;simp only[xI,Option.map_map]at this;exact this
 unfold DS;rw[g];split
 ·rfl
 ·split
  ·rfl
  ·have:=h (Af (d.map AE.id) id).toNat
   generalize rows[(Af (d.map AE.id) id).toNat]?=a at*;generalize d[(Af (d.map AE.id) id).toNat]?=b at*;cases a with
   |none=>cases b with
    |none=>rfl
    |some r=>cases this
   |some r=>cases b with
    |none=>cases this
    |some i=>
     have e:r.k=i.k:=xD this;dsimp only;rw[e]
def kid(r:AE):Nat×yF:=(r.k,r.id)
section
variable {w0:World} {S:Nat} {vR vO vI vU vN:Value} {LR:List (Au×Value)} {LO:List AX} {LI:List (At×Value)} {LU:List (Aw×Value)} {names:List yF} {T M gO B1 gR cR:Nat} {rows0:List AE}
theorem fW(aI:SV w0 S vR vO vI vU vN LR LO LI LU names)(aT:∃c,vO=.slice (some ⟨gO,0,none⟩) LO.length c)(W:World)(aL:yG w0 W)(hF:FS W T S M gO w0.heap.size B1 gR cR rows0)(bB:w0.heap.size<=B1)(aG:Option Addr)(aH:Nat)(ys:List AY)(aN:Fv w0 (.slice aG ys.length aH) ys)(b4:ys.length<=200)(bJ:rows0.length=ys.length)(aV:∀r∈rows0,r.k<LO.length)
 (n:∀(j:Nat) (r:AE) (y:AY),rows0[j]?=some r->ys[j]?=some y->r.cs=[]/\r.k=(Af ((LO.map Prod.fst).map Aq.name) y.1).toNat) (aP:∀y∈ys,y.2.2.length<=900000/\∀c∈y.2.2,c.2.size<=2000000):
 Calls prog 55 #[.pointer (some ⟨T,0,none⟩),.slice aG ys.length aH] W fun e w'=>e=.returned (.bool (ys.all (Hf (DS (LO.map Prod.fst) (LI.map iN) (LU.map uN) (LU.map Prod.fst) rows0) (LO.map Prod.fst))))/\yG w0 w'/\(ys.all (Hf (DS (LO.map Prod.fst) (LI.map iN) (LU.map uN) (LU.map Prod.fst) rows0) (LO.map Prod.fst))=true->∃rows,FS w' T S M gO w0.heap.size B1 gR cR rows/\rows.map kid=rows0.map kid/\∀(j:Nat) (r:AE) (y:AY),rows[j]?=some r->ys[j]?=some y->MJ (LO.map Prod.fst) r y.2.2):=by
 obtain⟨R,aD⟩:∃R,Hi (R=DS (LO.map Prod.fst) (LI.map iN) (LU.map uN) (LU.map Prod.fst) rows0):=⟨_,Aa rfl⟩;rw[<-aD.o];obtain⟨q,aA⟩:∃q,Hi (q=ys.all (Hf R (LO.map Prod.fst))):=⟨_,Aa rfl⟩;rw[<-aA.o];have ba:=Aa (fun B (V:yG w0 B) rows (bC:FS B T S M gO w0.heap.size B1 gR cR rows) (bH:∀r∈rows,r.k<LO.length)=>fY aI aT B V bC bB bH);have bp:=Aa aN;have bh:=Aa hF;have bb:=Aa aL;have bi:=Aa aV;have aE:=Aa n;have bf:=Aa aP;have bQ:=hF.t;have bV:=hF.g;have bR:=hF.b;clear aI aT hF aL aN aV n aP;go_enter func55,ntmps55;go_wp2;go_loopg [5,6,8,11,17,18,19] ys.length (fun m v5 v6 v8 v11 v17 v18 v19 wr=>∃(i:Nat) (rows:List AE),v11=.int .i64 i/\i<=ys.length/\ys.length-i<=m/\yG w0 wr/\FS wr T S M gO w0.heap.size B1 gR cR rows/\rows.map kid=rows0.map kid/\(∀(j:Nat) (r:AE) (y:AY),j<i->rows[j]?=some r->ys[j]?=some y->MJ (LO.map Prod.fst) r y.2.2)/\(∀(j:Nat) (r:AE),i<=j->rows[j]?=some r->r.cs=[])/\q=(ys.drop i).all (Hf R (LO.map Prod.fst)))
 case atStart=>
  refine⟨0,rows0,rfl,wZ _,wQ _,bb.o,bh.o,rfl,fun j r y l=>absurd l (Nat.not_lt_zero _),fun j r _ l=>?_,aA.o⟩;have bG:j<ys.length:=by rw[<-bJ];exact(wU.1 l).1
  exact(aE.o j r _ l (wS bG)).1
 case round=>
  obtain⟨i,rows,rfl,bW,b0,hb,J,K,aR,a2,a0⟩:=hrel;have E:=Aa hb;have az:=Aa J;have H:=Aa K;have ax:=Aa aR;have aF:=Aa a2;have ae:=Aa a0;clear hb J K aR a2 a0;by_cases bK:i<ys.length
  ·have z:=wS bK
   generalize ys[i]=y at z;have b3:rows.length=ys.length:=by have:=congrArg List.length H.o;simp only[xT]at this;omega
   obtain⟨d,n⟩:∃d,rows[i]?=some d:=⟨_,wS (by omega)⟩;have aj:∀a:List AE,a.map kid=rows0.map kid->∀r∈a,r.k<LO.length:=fun a e r al=>by
    have:kid r∈rows0.map kid:=by rw[<-e];exact List.mem_map_of_mem al
    obtain⟨D,u,C⟩:=List.mem_map.1 this;have:=bi.o D u;have U:D.k=r.k:=congrArg Prod.fst C;omega
   have w:=aj rows H.o d (wT n);obtain⟨x,am⟩:∃x,LO[d.k]?=some x:=⟨_,wS w⟩;have a4:d.k=(Af ((LO.map Prod.fst).map Aq.name) y.1).toNat:=by
    have e:(rows.map kid)[i]?=(rows0.map kid)[i]?:=by rw[H.o]
    rw[xI,xI,n]at e;obtain⟨D,u⟩:∃D,rows0[i]?=some D:=⟨_,wS (by omega)⟩;rw[u]at e;rw[<-(aE.o i D y u z).2];exact congrArg Prod.fst (xD e)
   have af:=Aa (show q=(Ks R x.1.fields [] y.2.2&&(ys.drop (i+1)).all (Hf R (LO.map Prod.fst)))from by
    rw[ae.o,ON z];show(Hf R (LO.map Prod.fst) y&&_)=_;unfold Hf;rw[<-a4,xI,am];rfl)
   obtain⟨bz,b6,bO,bP,e,Y,au,av,a7⟩:=bp.o.at z;subst e;have bq:=Aa a7;have Y:=Ah E.o Y;have au:=Ah E.o au;have av:=Ah E.o av;clear a7;have bE:bz<wr.heap.size:=wW wr _ Y;obtain⟨X,aC⟩:∃X,Hi (X=Ks R x.1.fields [] y.2.2):=⟨_,Aa rfl⟩;rw[<-aC.o]at af;have P:=Aa (xZ z (xZ am n));have bj:=Aa aj;have ap:=bf.o y (wT z);have bS:=ap.1;have bg:=Aa ap.2;have ai:=aF.o i d (wQ _) n;have bd:=Aa (show MJ (LO.map Prod.fst) d (y.2.2.take 0)from⟨by rw[ai];rfl,fun c h=>by rw[ai]at h;simp at h⟩);obtain⟨a9,rfl⟩:∃a9:World,a9=wr:=⟨_,rfl⟩;clear z am n aj w a4 ap ai ae;go_wp2;go_loopg [8,19] y.2.2.length (fun m v8 v19 wr=>∃(k:Nat) (a:List AE) (r:AE),v19=.int .i64 k/\k<=y.2.2.length/\y.2.2.length-k<=m/\yG w0 wr/\FS wr T S M gO w0.heap.size B1 gR cR a/\a.map kid=rows0.map kid/\(∀j,j≠i->a[j]?=rows[j]?)/\a[i]?=some r/\r.k=d.k/\MJ (LO.map Prod.fst) r (y.2.2.take k)/\X=Ks R x.1.fields ((y.2.2.take k).map (·.1)) (y.2.2.drop k))
   case atStart=>exact⟨0,rows,d,rfl,wZ _,wQ _,bA E.o _,az.o.below (bA (wR _ _) _),H.o,fun _ _=>rfl,P.o.2.2,rfl,bd.o,aC.o⟩
   case round=>
    clear Y au av bE;obtain⟨k,a,r,rfl,bX,b1,hb,J,K,aZ,a3,w,aO,a1⟩:=hrel;have Z:=Aa hb;have F:=Aa J;have I:=Aa K;have ab:=Aa aZ;have O:=Aa a3;have N:=Aa aO;have aB:=Aa a1;have bl:=Aa w;clear hb J K aZ a3 aO a1 w;by_cases bL:k<y.2.2.length
    ·have h:=wS bL
     generalize y.2.2[k]=c at h;obtain⟨bx,b5,e,c0,c1⟩:=(bq.o.below Z.o).at h;subst e;have bU:bx<wr.heap.size:=wW wr _ c0;obtain⟨rk,ar,b7,A⟩:=r;have aQ:=F.o.c i _ O.o;obtain⟨bs,bv,a5⟩:=An aQ;simp only at a5;subst a5;have w:rk=d.k:=bl.o;subst w;have ak:A.map CC=(y.2.2.take k).map (·.1):=by rw[<-N.o.e,List.map_map];rfl
     have b2:A.length<=900000:=by
      have:=congrArg List.length ak;simp only[xT,List.length_take]at this;omega
     have aM:DS (LO.map Prod.fst) (LI.map iN) (LU.map uN) (LU.map Prod.fst) a=R:=by rw[aD.o];exact sQ _ _ _ _ I.o
     have aa:=Aa (fun B (V:yG wr B)=>ba.o B (bT Z.o V) a (F.o.below V) (bj.o a I.o) i d.k ar bs bv A x O.o P.o.2.1 (by omega) c.1 c.2 (bg.o c (wT h)) (Sl c.2));rw[aM,ak]at aa;have ad:=Aa (show X=(Kh R x.1.fields ((y.2.2.take k).map (·.1)) c.1 c.2&&Ks R x.1.fields ((y.2.2.take (k+1)).map (·.1)) (y.2.2.drop (k+1)))from by
      rw[aB.o,ON h,xL,h,xY];rfl)
     have bn:=Aa (show y.2.2.take (k+1)=y.2.2.take k++[c]from by rw[xL,h];rfl);obtain⟨L,bk⟩:∃L,Hi (Kh R x.1.fields ((y.2.2.take k).map (·.1)) c.1 c.2=L):=⟨_,Aa rfl⟩;rw[bk.o]at ad aa;have Q:=Ac F.o.s.b;have aW:=Ab F.o.s.b;have bM:a.length=ys.length:=by have:=congrArg List.length I.o;simp only[xT]at this;omega
     rw[bM]at Q;clear h aQ aM ak;go_upto_region 7 with fail;have ag:=wX wr (.cells #[.string c.1,.string c.2] 41);have hb:=bA (wR wr.heap.size wr) (.cells #[.string c.1,.string c.2] 41);generalize wr.alloc (.cells #[.string c.1,.string c.2] 41)=br at*;have bu:=Ac ag;have bY:=Ab ag;have aw:=Aa hb;have Q:=fun k=>(hb.cell (p:=⟨T,k,none⟩) aW).trans (Q k);have bZ:T<br.heap.size:=xA aW hb.size;clear ag hb;go_cut [32] (fun v32 a8=>v32=.bool (!L)/\yG w0 a8/\(L=true->∃v' c',x.1.fields[(Af (x.1.fields.map Am.name) c.1).toNat]?=some (BU.f c')/\c'.f.name=c.1/\c'.t=c.2/\FS a8 T S M gO w0.heap.size B1 gR cR (a.set i ⟨d.k,ar,v',A++[c']⟩)))
     case first=>
      go_region_with (go_at_call 91;refine(aa.o _ ?_).mono ?_;(first|exact aw.o.drew|exact aw.o);rintro _ w2 ⟨rfl,bt,C⟩);all_goals(try go_wp2_with fail)
      all_goals(go_meet;exact⟨rfl,bt,C⟩)
     case rest=>
      obtain⟨rfl,ah,aS⟩:=hcut;clear bu Q c0 c1;cases L
      ·have ay:=Aa (show q=false from by rw[af.o,ad.o];rfl)
       go_wp2;go_ret;exact⟨Al ay.o.symm,ah,fun e=>by rw[ay.o]at e;cases e⟩
      ·obtain⟨v',c',u,C,aJ,aK⟩:=aS rfl
       have G:=Aa (xZ u (xZ C (xZ aJ aK)));have bc:=Aa ah;clear u C aJ aK aS ah;go_wp2;go_roundg (y.2.2.length-(k+1))
       case measure=>omega
       case rel=>
        have aU:i<a.length:=by omega
        refine⟨k+1,_,⟨d.k,ar,v',A++[c']⟩,by go_num,by omega,wQ _,bc.o,G.o.2.2.2,?_,fun j l=>by rw[List.getElem?_set_ne (fun e=>l e.symm)];exact ab.o j l,List.getElem?_set_self aU,rfl,⟨?_,fun c2 bD o aX=>?_⟩,ad.o⟩
        ·rw[<-I.o,List.map_set]
         refine List.ext_getElem? (fun j=>?_);by_cases e:i=j
         ·subst e;rw[List.getElem?_set_self (by rw[xT];exact aU),xI,O.o];rfl
         ·rw[List.getElem?_set_ne e]
        ·rw[bn.o,xY]
         show List.map _ A++[(c'.f.name,c'.t)]=_;rw[G.o.2.1,G.o.2.2.1,show A.map (fun c=>(c.f.name,c.t))=y.2.2.take k from N.o.e]
        ·rcases yD.1 bD with e|e
         ·exact N.o.f c2 e o aX
         ·rw[List.mem_singleton]at e
          subst e;have aY:(LO.map Prod.fst)[d.k]?=some o:=aX;rw[xI,P.o.2.1]at aY;have U:=xD aY;rw[<-U,G.o.2.1];exact G.o.1
    ·have bI:k=y.2.2.length:=by omega
     subst bI;have bo:=Aa (show q=(ys.drop (i+1)).all (Hf R (LO.map Prod.fst))from by rw[af.o,aB.o,List.drop_length];rfl);go_wp2;go_roundg (ys.length-(i+1))
     case measure=>omega
     case rel=>
      refine⟨i+1,a,by go_num,by omega,wQ _,Z.o,F.o,I.o,fun j aq bN l v ao=>?_,fun j aq l v=>?_,bo.o⟩
      ·by_cases e:j=i
       ·subst e
        rw[O.o]at v;rw[P.o.1]at ao;have U:=xD v;have bw:=xD ao;subst U bw;have:=N.o;rw[List.take_length]at this;exact this
       ·rw[ab.o j e]at v
        exact ax.o j aq bN (by omega) v ao
      ·rw[ab.o j (by omega)]at v
       exact aF.o j aq (by omega) v
  ·have bF:i=ys.length:=by omega
   subst bF;have bm:=Aa (show q=true from by rw[ae.o,List.drop_length];rfl);go_wp2;go_ret;exact⟨Al bm.o.symm,E.o,fun _=>⟨rows,az.o,H.o,fun j r y al a6=>ax.o j r y (wU.1 a6).1 al a6⟩⟩
end
open Go.Maps Tryz
structure Ou(w:World)(objs:List Aq)(y:AY)(r:AE):Prop where
 k:r.k=(Af (objs.map Aq.name) y.1).toNat
 id:r.id=y.2.1
 c:Gn w r.v r.cs
 a:MJ objs r y.2.2
 v:∀c∈r.cs,Ba w (fun g=>g<w.heap.size) 1603 c.c (pv (CZ c.t))/\c.c.ln<=c.c.lc
structure JZ(w:World)(T S gO:Nat)(objs:List Aq)(ys:List AY):Prop where
 ex:∃M B vL qs,EL w T S M gO B vL qs/\qs.length=ys.length/\∀(j:Nat) (r:AE) (y:AY),qs[j]?=some r->ys[j]?=some y->Ou w objs y r
theorem Ou.below{w w':World}{objs:List Aq}{y:AY}{r:AE}(b:Ou w objs y r)(hb:yG w w'):Ou w' objs y r:=
 ⟨b.k,b.id,b.c.below hb,b.a,fun c e=>⟨(b.v c e).1.frame (fun g d o=>hb.cell (p:=⟨g,o,none⟩) d) (fun _ d=>xA d hb.size),(b.v c e).2⟩⟩
theorem JZ.below{w w':World}{T S gO:Nat}{objs:List Aq}{ys:List AY}(b:JZ w T S gO objs ys)(hb:yG w w'):JZ w' T S gO objs ys:=by
 obtain⟨a,B,vL,h,c,d,e⟩:=b.ex;exact⟨a,B,vL,h,c.below hb,d,fun j r y f g=>(e j r y f g).below hb⟩
theorem fX(W:World)(T b:Nat)(a:Option Addr):Calls prog 55 #[.pointer (some ⟨T,0,none⟩),.slice a 0 b] W fun e w'=>e=.returned (.bool true)/\yG W w':=by
 go_enter func55,ntmps55;go_wp2;go_loopg [5,6,8,11,17,18,19] 0 (fun m v5 v6 v8 v11 v17 v18 v19 wr=>v11=.int .i64 0/\wr=W)
 case atStart=>exact⟨rfl,rfl⟩
 case round=>
  obtain⟨rfl,rfl⟩:=hrel;go_wp2;go_ret;exact⟨rfl,wR _ _⟩
theorem WN(w:World):(Instr.makeMap 65 none).run prog w=.ok (.map (some w.heap.size)) (w.alloc (.map #[] 0)):=by
 unfold Instr.makeMap;simp[go_sem]
def Lt(objs:List Aq)(ifs uns:List yF)(us:List Aw)(ys:List AY):Bool:=decide (ys.length<=200)&&(GQ (objs.map Aq.name) [] ys&&ys.all (Hf (DS objs ifs uns us (ys.map (qz (objs.map Aq.name)))) objs))
theorem QO(objs:List yF):∀(ys:List AY) (c:List AE),GQ objs c ys=true->∀y∈ys,0<=Af objs y.1
 |[],_,_,y,b=>by simp at b
 |z::ys,c,a,y,b=>by
  rw[GQ,xQ]at a;rcases yE.1 b with e|e
  ·rw[e]
   have:=a.1;unfold Jy at this;simp only[xQ,xK]at this;exact this.1
  ·exact QO objs ys _ a.2 y e
section
variable {S:Nat} {vR vO vI vU vN:Value} {LR:List (Au×Value)} {LO:List AX} {LI:List (At×Value)} {LU:List (Aw×Value)} {names:List yF} {gO:Nat}
theorem tQ(w:World)(al:SV w S vR vO vI vU vN LR LO LI LU names)(O:∃c,vO=.slice (some ⟨gO,0,none⟩) LO.length c)(A:Option Addr)(B:Nat)(ys:List AY)(aq:Fv w (.slice A ys.length B) ys)(aQ:ys.length<=1000000)(ar:∀y∈ys,y.2.1.size<=2000000/\y.2.2.length<=900000/\∀c∈y.2.2,c.2.size<=2000000):
 Calls prog 35 #[.pointer (some ⟨S,0,none⟩),.slice A ys.length B] w fun e w'=>∃q,e=.returned (.tuple #[.pointer q,.int .i64 (if Lt (LO.map Prod.fst) (LI.map iN) (LU.map uN) (LU.map Prod.fst) ys=true then 0 else 3)])/\yG w w'/\(Lt (LO.map Prod.fst) (LI.map iN) (LU.map uN) (LU.map Prod.fst) ys=true->∃T,q=some ⟨T,0,none⟩/\JZ w' T S gO (LO.map Prod.fst) ys):=by
 have Y:(LO.map Prod.fst).map Aq.name=LO.map oN:=by rw[List.map_map];rfl
 have C:=Aa (Lt.eq_1 (LO.map Prod.fst) (LI.map iN) (LU.map uN) (LU.map Prod.fst) ys);rw[Y]at C;generalize Lt (LO.map Prod.fst) (LI.map iN) (LU.map uN) (LU.map Prod.fst) ys=q at*;obtain⟨L,G⟩:∃L:Int,Hi (L=if q=true then 0 else 3):=⟨_,Aa rfl⟩;obtain⟨J,H⟩:∃J:Option Addr->World->Prop,Hi (J=fun u z=>q=true->∃T,u=some ⟨T,0,none⟩/\JZ z T S gO (LO.map Prod.fst) ys):=⟨_,Aa rfl⟩
 suffices key:Calls prog 35 #[.pointer (some ⟨S,0,none⟩),.slice A ys.length B] w fun e w'=>∃u,e=.returned (.tuple #[.pointer u,.int .i64 L])/\yG w w'/\J u w' by
  refine key.mono ?_;rintro e w' ⟨u,h,m,M⟩;rw[G.o]at h;rw[H.o]at M;exact⟨u,h,m,M⟩
 have W:=Aa (show q=false->∀z,yG w z->∃u,Ending.returned (Value.tuple #[.pointer none,.int .i64 3])=.returned (.tuple #[.pointer u,.int .i64 L])/\yG w z/\J u z from fun e z aG=>⟨none,by rw[G.o,e];rfl,aG,by rw[H.o];exact fun aj=>by rw[e]at aj;cases aj⟩);have ah:=Aa aq;have ae:=Aa al;have ad:=Aa O;have af:=Aa Y;have aP:=WN;clear al aq O Y;by_cases aO:200<ys.length
 ·have U:=Aa (show q=false from by rw[C.o,wY (by omega)];rfl)
  have hd:decide ((200:Int)<(ys.length:Int))=true:=by simp;omega
  go_enter func35,ntmps35;go_wp2;refine bodyPost_ret (v:=.tuple #[.pointer none,.int .i64 3]) (by simp[results,results35,go_sem]) rfl (W.o U.o _ ?_);repeat' with_reducible first|exact wR _ _|refine bA ?_ _
 have hd:decide ((200:Int)<(ys.length:Int))=false:=by simp;omega
 rw[xM (show ys.length<=200 by omega)]at C;have I:=Aa (show q=(GQ (LO.map oN) [] ys&&ys.all (Hf (DS (LO.map Prod.fst) (LI.map iN) (LU.map uN) (LU.map Prod.fst) (ys.map (qz (LO.map oN)))) (LO.map Prod.fst)))from C.o);clear C;obtain⟨Z,V⟩:∃Z,Hi (GQ (LO.map oN) [] ys=Z):=⟨_,Aa rfl⟩;rw[V.o]at I;go_enter func35,ntmps35;go_wp2_with fail;have ap:((w.alloc (.map #[] 0)).alloc (.cells #[.slice none 0 0,.pointer (some ⟨S,0,none⟩),.map (some w.heap.size)] 67)).heap[w.heap.size+1]?=some (.cells #[.slice none 0 0,.pointer (some ⟨S,0,none⟩),.map (some w.heap.size)] 67 (0,0)):=by have:=wX (w.alloc (.map #[] 0)) (.cells #[.slice none 0 0,.pointer (some ⟨S,0,none⟩),.map (some w.heap.size)] 67);simpa using this
 have ao:BS ((w.alloc (.map #[] 0)).alloc (.cells #[.slice none 0 0,.pointer (some ⟨S,0,none⟩),.map (some w.heap.size)] 67)) w.heap.size 0 (.map []):=(World.ownsMap_made w _ _ _).alloc _;have am:yG w ((w.alloc (.map #[] 0)).alloc (.cells #[.slice none 0 0,.pointer (some ⟨S,0,none⟩),.map (some w.heap.size)] 67)):=bA (bA (wR _ _) _) _;generalize (w.alloc (.map #[] 0)).alloc (.cells #[.slice none 0 0,.pointer (some ⟨S,0,none⟩),.map (some w.heap.size)] 67)=ai at*;have aC:=Aa (show EL ai (w.heap.size+1) S w.heap.size gO w.heap.size (.slice none 0 0) []from⟨ap,xF _ _ _ _,⟨.map [],ao,PM.nil⟩,List.nodup_nil,by simp⟩);have aA:=Aa am;clear ap ao am;have Q:=Aa (ZK ae.o ad.o ai aA.o aC.o (Nat.le_succ _) (wQ _) A B ys ah.o (by omega) (fun y p=>(ar y p).1));rw[V.o]at Q;refine Q.o.mono ?_;rintro _ K ⟨rfl,X,m⟩;cases Z
 ·have U:=Aa (show q=false from I.o)
  go_wp2_with fail;exact bodyPost_ret (v:=.tuple #[.pointer none,.int .i64 3]) (by simp[results,results35,go_sem]) rfl (W.o U.o _ X)
 obtain⟨vL,ay⟩:=m rfl;have D:=Aa ay;have R:=Aa X;clear ay m X Q;have ag:=Aa (show q=ys.all (Hf (DS (LO.map Prod.fst) (LI.map iN) (LU.map uN) (LU.map Prod.fst) (ys.map (qz (LO.map oN)))) (LO.map Prod.fst))from I.o);clear I;by_cases ax:ys=[]
 ·subst ax
  have aD:=Aa (show q=true from ag.o);go_wp2_with fail;refine(fX K (w.heap.size+1) B A).mono ?_;rintro _ aE ⟨rfl,E⟩;go_wp2;refine bodyPost_ret (v:=.tuple #[.pointer (some ⟨w.heap.size+1,0,none⟩),.int .i64 0]) (by simp[results,results35,go_sem]) rfl ⟨some ⟨w.heap.size+1,0,none⟩,by rw[G.o,aD.o];rfl,bT R.o E,?_⟩;rw[H.o];intro _;exact⟨_,rfl,⟨_,_,_,_,D.o.below E,rfl,fun j r y _ p=>by simp at p⟩⟩
 obtain⟨aa,az⟩:∃aa,ys[0]?=some aa:=by
  cases ys with
  |nil=>exact absurd rfl ax
  |cons y l=>exact⟨y,rfl⟩
 obtain⟨ak,cap,aN,_,_,_⟩:=D.o.at (show(ys.map (qz (LO.map oN)))[0]?=some (qz (LO.map oN) aa)by rw[xI,az];rfl);subst aN;have P:∀(j:Nat) (r:AE),(ys.map (qz (LO.map oN)))[j]?=some r->∃y,ys[j]?=some y/\r=qz (LO.map oN) y:=fun j r n=>by
  rw[xI]at n;obtain⟨y,h,m⟩:=yC.1 n;exact⟨y,h,m.symm⟩
 have F:∀r∈ys.map (qz (LO.map oN)),∃y∈ys,r=qz (LO.map oN) y:=fun r a=>by
  obtain⟨y,h,m⟩:=List.mem_map.1 a;exact⟨y,h,m.symm⟩
 have aB:=Aa (show FS K (w.heap.size+1) S w.heap.size gO w.heap.size K.heap.size ak cap (ys.map (qz (LO.map oN)))from
  {s:=D.o
   t:=Ab D.o.b
   g:=Ln D.o.r ak rfl
   b:=wQ _
   c:=fun j r n=>by obtain⟨y,_,e⟩:=P j r n;subst e;exact xF _ _ _ _
   d:=fun i j r aR _ aI _ k aJ=>by obtain⟨y,_,e⟩:=P i r aI;subst e;cases aJ
   f:=fun r a c x=>by obtain⟨y,_,e⟩:=F r a;subst e;simp[qz]at x
   v:=fun r a c x=>by obtain⟨y,_,e⟩:=F r a;subst e;simp[qz]at x
   lc:=fun r a c x=>by obtain⟨y,_,e⟩:=F r a;subst e;simp[qz]at x})
 have au:=QO _ ys [] V.o;have ab:=Aa (fW ae.o ad.o K R.o aB.o R.o.size A B ys ah.o (by omega) (xT _) (fun r a=>by
  obtain⟨y,p,e⟩:=F r a;subst e;have h:=au y p;have m:=(Ib (LO.map oN) y.1).2;rw[xT]at m;show(Af (LO.map oN) y.1).toNat<LO.length;omega) (fun j r y n p=>by
  obtain⟨aS,h,e⟩:=P j r n;rw[p]at h;have aF:=xD h;subst aF e;exact⟨rfl,by rw[af.o];rfl⟩) (fun y p=>(ar y p).2))
 rw[<-ag.o]at ab;clear P F au az;go_wp2_with fail;refine ab.o.mono ?_;rintro _ aE ⟨rfl,E,M⟩;cases q
 ·go_wp2_with fail
  exact bodyPost_ret (v:=.tuple #[.pointer none,.int .i64 3]) (by simp[results,results35,go_sem]) rfl (W.o trivial _ E)
 ·obtain⟨rows,N,av,aH⟩:=M rfl
  go_wp2;refine bodyPost_ret (v:=.tuple #[.pointer (some ⟨w.heap.size+1,0,none⟩),.int .i64 0]) (by simp[results,results35,go_sem]) rfl ⟨some ⟨w.heap.size+1,0,none⟩,by rw[G.o];rfl,E,?_⟩;rw[H.o];intro _;have aM:rows.length=ys.length:=by have:=congrArg List.length av;simpa using this
  refine⟨_,rfl,⟨_,_,_,rows,N.s,aM,fun j r y a n=>?_⟩⟩;have aw:kid r=kid (qz (LO.map oN) y):=by
   have e:(rows.map kid)[j]?=((ys.map (qz (LO.map oN))).map kid)[j]?:=by rw[av]
   rw[xI,a,xI,xI,n]at e;exact xD e
  have aK:r.k=(Af (LO.map oN) y.1).toNat:=congrArg Prod.fst aw;have aL:r.id=y.2.1:=congrArg Prod.snd aw;exact⟨by rw[af.o];exact aK,aL,N.cells a,aH j r y a n,fun c x=>⟨(N.v r (wT a) c x).frame (fun _ _ _=>rfl) (fun g O=>O.2.1),N.lc r (wT a) c x⟩⟩
end
open Go.ChangeMaps Tryz
def Nw(z:List (yF×Bool)):List yF:=(z.filter (·.2)).map (·.1)
def Ef(roles:List Au)(role:yF):List yF:=if Af (roles.map Au.name) role<0 then []else role::Nw ((roles.map Au.name).zip (CU roles (2*roles.length+1) ([(Af (roles.map Au.name) role).toNat],List.replicate roles.length false)))
section
variable {w:World} {S:Nat} {vR vO vI vU vN:Value} {LR:List (Au×Value)} {LO:List AX} {LI:List (At×Value)} {LU:List (Aw×Value)} {names:List yF}
theorem iJ(d:SV w S vR vO vI vU vN LR LO LI LU names)(Y:(LR.map rN).Nodup)(aj:∀x∈LR,∀y∈x.1.inc,y∈LR.map rN/\y.size<=4000)(av:∀y∈LR.map rN,y.size<=4000)(role:yF)(bk:role.size<=2000000):
 Calls prog 36 #[.pointer (some ⟨S,0,none⟩),.string role] w fun e w'=>∃v,e=.returned v/\(∃B,w'.ownsRow B 9 1 v (Ef (LR.map Prod.fst) role).length (Bn (Ef (LR.map Prod.fst) role)))/\(Ef (LR.map Prod.fst) role).length<=1000/\yG w w':=by
 obtain⟨a2,aQ,aZ,a0,a1⟩:=info_parts info9';have aq:(LR.map Prod.fst).map Au.name=LR.map rN:=by rw[List.map_map];rfl
 have g:=Aa (Ef.eq_1 (LR.map Prod.fst) role);rw[aq,xT]at g;have bj:=d.lr;have O:=Aa (XL w vR (LR.map rN) d.shapedR (by simp;omega) av);have ab:=Aa d;have V:=NC role (by unfold maxLen;omega);have ad:=Aa (fun af (aM:yG w af) place t a3 D aJ f aV=>Vq af S vR vO vI vU vN LR LO LI LU names place t a3 D (d.below aM) aJ f Y aj aV);have ag:=Ac d.sc;have ao:=Ab d.sc;have aD:=Aa Y;obtain⟨a6,a7,aX⟩:=An d.r.own;subst aX;clear d Y aj av aq;generalize Ef (LR.map Prod.fst) role=aO at*;by_cases G:Af (LR.map rN) role<0
 ·rw[xH G]at g
  have F:=NM role (LR.map rN) (fun e=>by have:=Mc _ _ e;omega);clear G;go_enter func36,ntmps36;go_wp2_with fail;refine O.o.mono ?_;rintro _ w1 ⟨t,D,rfl,_,a,f,I⟩;have A:=f.hasP role;rw[F]at A;go_wp2_with (at_lookup;refine wpList_lookup_own_ok_int _ rfl _ _ 65 rfl 9 3 .i64 Ci underlying65 underlying3 (GL _) t _ D rfl a _ _ rfl V ?_;intro c J aY;rw[A]);go_ret;exact⟨_,rfl,⟨0,by rw[g.o];exact xF _ _ _ _⟩,by rw[g.o];simp,I⟩
 rw[xG G]at g;obtain⟨j,r,T,au,hid,aS⟩:=Cu rN LR role G;have X:role∈LR.map rN:=List.mem_map.2 ⟨r,wT au,hid⟩;have F:=(FD role _).2 X;rw[T,xS]at g;have aB:=Aa T;clear G hid au T;go_enter func36,ntmps36;go_wp2_with fail;refine O.o.mono ?_;rintro _ w1 ⟨t,D,rfl,_,a,f,I⟩;have A:=f.hasP role;rw[F]at A;obtain⟨H,ak,al⟩:=f.val role X;have aI:H=j:=by have:=Ma _ role H aD.o ak;have:=aB.o;omega
 subst aI;have L:=Aa I;have aE:=Aa a;have aG:=Aa f;clear I ak f O X;go_wp2_with (at_lookup;refine wpList_lookup_own_ok_int _ rfl _ _ 65 rfl 9 3 .i64 Ci underlying65 underlying3 (GL _) t _ D rfl a _ _ rfl V ?_;intro c J aY;rw[A];rw[al]at J;simp only[DataW.lit.injEq,Lit.int.injEq,true_and]at J;subst J);have Q:=wX w1 (.cells #[.string role] 9);have hb:=bA (wR w1.heap.size w1) (.cells #[.string role] 9);generalize w1.alloc (.cells #[.string role] 9)=w2 at*;have aC:=Aa Q;have ay:=Aa hb;have am:=Ab Q;refine(ad.o w2 (bT L.o hb) H t LR.length D (aE.o.below hb|>fun q=>by simpa using q) aG.o aS).mono ?_;rintro _ w3 ⟨rfl,b,E⟩;have aN:(CU (LR.map Prod.fst) (2*LR.length+1) ([H],List.replicate LR.length false)).length=LR.length:=Vp _ LR.length _ rfl 0 _ (by simp);generalize CU (LR.map Prod.fst) (2*LR.length+1) ([H],List.replicate LR.length false)=z at*;have aA:=Aa b;have a5:=Aa E;have aK:=Aa ((E.block _ am).trans aC.o);have bo:w1.heap.size<w2.heap.size:=am;have az:=Aa (bT (bT L.o ay.o) E);have bm:=E.size;have bg:=Ab b;have bl:=L.o.size;have Z:=Aa aN;clear b E Q hb ad a ag V al A F;go_wp2;go_loopg [8,9,10,31] LR.length (fun m v8 v9 v10 v31 wr=>∃(i:Nat) (l:List yF),v31=.int .i64 i/\i<=LR.length/\LR.length-i<=m/\wr.ownsRow w1.heap.size 9 1 v8 l.length (Bn l)/\l.length<=i+1/\l=role::Nw (((LR.map rN).zip z).take i)/\yG w wr/\wr.heap[w2.heap.size]?=some (.cells (Bw z).toArray 4 (0,0)))
 case atStart=>exact⟨0,[role],rfl,wZ _,wQ _,⟨rfl,Or.inr ⟨w1.heap.size,1,_,rfl,wQ _,aK.o,wQ _,by decide,rfl,rfl⟩⟩,wQ _,rfl,az.o,aA.o⟩
 case round=>
  obtain⟨i,l,rfl,bd,F,a,bh,W,hb,b⟩:=hrel;obtain⟨aL,cL,aW⟩:=An a;subst aW;have C:=Aa a;have N:=Aa W;have n:=Aa hb;have M:=Aa b;have bn:=hb.size;by_cases ap:i<LR.length
  ·have K:=wS ap
   generalize LR[i]=x at K;obtain⟨P,cap,ax,ah⟩:=ab.o.r.cell (fun _=>rfl) i x K;have aH:=(Value.slice.inj ax).1;subst aH;have a4:wr.cell? ⟨P,i*2,none⟩=some (.string (rN x)):=Ah hb (show w.cell? ⟨P,i*2,none⟩=some (.string x.1.name)from by simpa using ah 0 _ rfl);have bb:P<wr.heap.size:=wW wr _ a4;have ag:=fun k=>(hb.cell (p:=⟨S,k,none⟩) ao).trans (Ac ab.o.sc k);have bf:S<wr.heap.size:=xA ao hb.size;obtain⟨h,R⟩:∃h,z[i]?=some h:=⟨_,wS (by rw[Z.o];exact ap)⟩;have a9:wr.cell? ⟨w2.heap.size,i,none⟩=some (.bool h):=by rw[Ac b i];simp[Bw,R]
   have aT:=Ab b;have ae:=Aa (show Nw (((LR.map rN).zip z).take (i+1))=Nw (((LR.map rN).zip z).take i)++(if h=true then [rN x]else [])from by
    rw[xL,show((LR.map rN).zip z)[i]?=some (rN x,h)from by rw[List.getElem?_zip_eq_some];exact⟨by rw[xI,K];rfl,R⟩];unfold Nw;rw[List.filter_append,xY];cases h<;>rfl)
   clear a W hb b ah ax R K;cases h
   ·go_wp2
    go_roundg (LR.length-(i+1))
    case measure=>omega
    case rel=>exact⟨i+1,l,by go_num,by omega,wQ _,C.o,by omega,by rw[N.o,ae.o];simp,n.o,M.o⟩
   ·have bi:l.length<=805:=by omega
    go_wp2_with (at_builtin;refine wpList_append_lies _ rfl _ _ 42 rfl w1.heap.size 9 a2 _ 1 16 underlying42 aQ aZ a0 a1 rfl (by decide) _ _ _ rfl (C.o.alloc _) ⟨wr.heap.size,0,none⟩ 1 1 [.string (rN x)] rfl rfl (cell_one_new _ _ _) (fun u aw=>by simp at aw;subst aw;rfl) (by decide) (by unfold maxLen;omega) (by omega) (by simp;omega) (wr.heap.size+1) (by simp) ?_;intro ba a8 bq ar ai bp bc;have aF:=Aa ar;have s:=Aa ai;clear ar ai);have aP:=s.o.size;simp at aP;go_roundg (LR.length-(i+1))
    case measure=>omega
    case rel=>
     have aU:∀k,k<w.heap.size->Option.some k≠(Value.slice aL l.length cL).ownBlock:=fun k U=>Ms C.o (by omega);refine⟨i+1,l++[rN x],by go_num,by omega,wQ _,by rw[Oa,xJ];exact aF.o,by simp;omega,?_,⟨s.o.os.trans n.o.os,s.o.tape.trans n.o.tape,s.o.output.trans n.o.output,by omega,fun k U=>(s.o.block k (by simp;omega) (aU k U)).trans ((AJ _ _ _ (by omega)).trans (n.o.block k U))⟩,?_⟩
     ·rw[ae.o,N.o];simp
     exact(s.o.block _ (by simp;omega) (EA C.o M.o (by decide))).trans ((AJ _ _ _ aT).trans M.o)
  ·have aR:i=LR.length:=by omega
   subst aR;have aa:=Aa (show aO=l from by rw[g.o,N.o,xB (by rw[List.length_zip,xT,Z.o];omega)]);clear a hb b W;go_wp2;go_ret;exact⟨_,rfl,⟨w1.heap.size,by rw[aa.o];exact C.o⟩,by rw[aa.o];omega,n.o⟩
end
end Go.Proofs.YtogdodlibkckkaaGreatDoor
