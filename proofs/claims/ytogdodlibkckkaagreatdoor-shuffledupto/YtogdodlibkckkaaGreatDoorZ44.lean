import Derived.Test.YtogdodlibkckkaaGreatDoorZ43
namespace Go.Proofs.YtogdodlibkckkaaGreatDoor
set_option maxHeartbeats 20000000
set_option maxRecDepth 100000
open Go.RowKit Tryz
section
variable {w0:World} {S:Nat} {vR vO vI vU vN:Value} {LR:List (Au×Value)} {LO:List AX} {LI:List (At×Value)} {LU:List (Aw×Value)} {names:List yF} {gO:Nat}
theorem oZ(l:SV w0 S vR vO vI vU vN LR LO LI LU names)(E:∃c,vO=.slice (some ⟨gO,0,none⟩) LO.length c){k:Nat}{x:AX}(v:LO[k]?=some x){n:yF}{d:Am}(hd:EQ x.1.fields n=some d):∃b z u,Cn w0 b z d u/\Bx w0 S u d.ty/\∀a,yG w0 a->Calls prog 142 #[.pointer (some ⟨gO,k*4,none⟩),.string n] a fun e w'=>e=.returned (.pointer (some ⟨b,z,none⟩))/\yG a w':=by
 obtain⟨M,K,t,B⟩:=l.o.cell (fun _=>rfl) k x v;obtain⟨c0,H⟩:=E;rw[H]at t;have A:=(Addr.mk.inj (xD (Value.slice.inj t).1)).1;subst A;have J:w0.cell? ⟨gO,k*4+1,none⟩=some x.2.1:=B 1 _ rfl;obtain⟨D,O,_,_,_⟩:=l.o.ok x (wT v);obtain⟨f,g,r⟩:=D.row;have i:f.map fN=x.1.fields.map Am.name:=Ku f _ g;have N:f.length=x.1.fields.length:=by rw[<-g,xT]
 have G:Dc w0 x.2.1 6 (x.1.fields.map Am.name):=by rw[<-i];exact r.rowed fN (fun _=>rfl) (fun _=>rfl)
 unfold EQ at hd;split at hd
 ·cases hd
 ·rename_i F
  obtain⟨j,y,h,w,P,_⟩:=Cu fN f n (by rw[i];exact F);obtain⟨b,L,I,p,s⟩:=r.fldAt j y w;rw[i]at h;have C:y.1=d:=by
   rw[h,xS,<-g,xI,w]at hd;exact xD hd
  rw[C]at p s;refine⟨b,j*6,y.2,p,s,fun a m=>?_⟩;have q:=OT a gO (k*4) x.2.1 n (x.1.fields.map Am.name) (Ah m J) (G.below m) (by simp;omega);rw[show AC x.2.1 6 (Af (x.1.fields.map Am.name) n)=.pointer (some ⟨b,j*6,none⟩)from by rw[h,I];unfold AC;rw[xG (by omega)];rfl]at q;exact q
end
section
variable {w0:World} {S:Nat} {vR vO vI vU vN:Value} {LR:List (Au×Value)} {LO:List AX} {LI:List (At×Value)} {LU:List (Aw×Value)} {names:List yF} {T Mm gO Bs V:Nat} {vL:Value} {qs:List AE} {rows:List (yF×MR)} {vid:yF} {roles:List yF} {Bq:Nat} {pp:List Nat} {whole:Nat} {m:List Bool} {E:AM} {M f:Nat}
theorem Xj(E:AM)(f:Nat)(r:MR)(g:List Nat)(s:Aj):(AV E f r g s).1<=2:=by
 have d:∀(c:Cd) (r:MR) (l:List QF) (i a:Nat) (s:Aj),a<=2->(Cv E c r l i a s).1<=2:=by
  intro c r l
  induction l with
  |nil=>intro i a s b;rw[Cv];exact b
  |cons x l e=>
   intro i a s b;rw[Cv];split
   ·exact wQ _
   ·exact e _ _ _ (RK b)
 cases f with
 |zero=>exact wQ _
 |succ f=>rw[AV];exact d _ _ _ _ _ _ (by omega)
theorem uV(E:AM)(f:Nat)(r:MR)(d:Am)(x:QF)(s:Aj):(Er E (AV E f) r d x s).1<=2:=by
 unfold Er;split
 ·exact wQ _
 split
 ·unfold GH
  split
  ·exact wQ _
  ·exact Xj E f _ _ _
 split
 ·exact Tj E f _ _ _ _
 ·exact Tj E f _ _ _ _
theorem nT(h:MX w0 S vR vO vI vU vN LR LO LI LU names T Mm gO Bs V vL qs rows vid roles Bq pp whole m E)(b5:f<=5001)(aw:JU w0 gO LO T V pp whole m E M f)
 {w:World} {s:Aj} {r:MR} {g o:Nat} {l:List BU} {x:As} {B G:Nat} {n:List Nat} {bv:Value} {bz:Nat} (hb:yG w0 w) (bZ:MK w w0.heap.size M T V pp.length s) (ax:RB 0 0 s) (bY:0<=s.left) (b4:s.left<f) (bq:s.path≠[]) (bn:DL 1 s) (U:Hn w0 w gO LO g o l r) (aG:Jw E r) (a0:Et r) (ad:Qx E.c E.parts whole m (E.obj r.1) (x,n)) (ae:Fg w0 Bq pp B G x) (b0:∀a∈x.args,a.2.2.2.size<=4000) (b8:n.length<=10000000) (af:w.ownsRow bz 120 1 bv n.length (Bz pp n)):
 Calls prog 121 #[.pointer (some ⟨M,0,none⟩),.pointer (some ⟨g,o,none⟩),.agg #[.pointer (some ⟨B,G,none⟩),bv]] w (AQ w w0.heap.size M T V pp.length (.bool (DI E (AV E f) r (x,n) s).1) (DI E (AV E f) r (x,n) s).2):=by
 have ag:=hb.size;have aZ:=ax.room (by omega) (by omega);have br:=ax.len (by omega);obtain⟨O,P,rfl⟩:=An af;have ay:=bA (wR w.heap.size w) (.cells #[.pointer (some ⟨B,G,none⟩),.slice O n.length P] 254);have aA:=Aa (wX w (.cells #[.pointer (some ⟨B,G,none⟩),.slice O n.length P] 254));have J:=Aa (show FT w0.heap.size kM w _ from FT.of_below ay ag);have N:=Aa (bZ.below ay);have ah:w0.heap.size<=(w.alloc (.cells #[.pointer (some ⟨B,G,none⟩),.slice O n.length P] 254)).heap.size:=wV ag ay.size;have L:=Aa (show yG w0 (w.alloc (.cells #[.pointer (some ⟨B,G,none⟩),.slice O n.length P] 254))from hb.trans (ay.mono ag));obtain⟨al,A⟩:∃al,Hi (al=DI E (AV E f) r (x,n) s):=⟨_,Aa rfl⟩;rw[<-A.o];unfold DI at A;obtain⟨bN,bQ,cl,co,ab,az⟩:=ae.ex;have bw:w0.cell? ⟨B,G+2,none⟩=some (.string x.name):=ab 2 _ rfl;have bx:w0.cell? ⟨B,G+3,none⟩=some (.slice bN x.args.length bQ):=ab 3 _ rfl;have bs:=wW w0 _ bx;have bJ:=Aa az.a;have z2:=Ah L.o bw;have z3:=Ah L.o bx;have cA:=wW _ _ z2;obtain⟨y,aI⟩:∃y,LO[r.1]?=some y:=⟨_,wS (by have:=aG.k;rw[h.eo,xT]at this;exact this)⟩;have X:E.obj r.1=y.1:=by unfold AM.obj;rw[h.eo,List.getD_eq_getElem?_getD,xI,aI];rfl
 have b7:w0.cell? ⟨gO,r.1*4,none⟩=some (.string y.1.name):=by
  obtain⟨c,bW⟩:=h.g;obtain⟨cu,cr,bg,b3⟩:=h.s.o.cell (fun _=>rfl) r.1 y aI;rw[bW]at bg;have bT:=Addr.mk.inj (xD (Value.slice.inj bg).1);rw[bT.1];simpa using b3 0 _ rfl
 have bb:(x.name.toList==[95,95,116,121,112,101,110,97,109,101])=decide (x.name=Gu):=BX x.name _;have bc:(x.name.toList==[95,95,116,121,112,101,115])=decide (x.name=Gv):=BX x.name _;have bd:(x.name.toList==[95,95,102,105,101,108,100,115])=decide (x.name=FZ):=BX x.name _;have b2:=MK.c01 ⟨s,N.o⟩;have cx:=b2.2.2;clear ay;by_cases Y:x.name=Gu
 ·rw[xH Y]at A
  rw[xM Y]at bb;clear Y;have cc:=(U.a _ J.o).c0;have cC:=wW _ _ cc;have cb:=Ah L.o b7;have cB:=wW _ _ cb;have cv:y.1.name.size<=4000:=by rw[<-X];exact h.sz.on r.1
  rw[X]at A;obtain⟨ce,cf,cg,F⟩:=N.o;obtain⟨am,ao,bO,bR,bP,bS,rfl,rfl,rfl⟩:=F.slices;have cj:=J;unfold AQ;have ck:=Aa F;have b1:=F.d;have bI:=Aa A.o;generalize aS:s.data++Bo y.1.name.data.toList=bB at*;have bG:=Aa (show al=(true,⟨s.left,bB,s.errs,s.path⟩)from by rw[A.o];unfold Aj.write;rw[aS]);clear h aw ad U ae ab az af N bI;go_enter func121,ntmps121;go_wp2_with fail;generalize w.alloc (.cells #[.pointer (some ⟨B,G,none⟩),.slice O n.length P] 254)=D at*;have a9:=Aa (fun W (Q:yG D W)=>Sf W w0.heap.size (.slice am s.data.length ao) s.data y.1.name (AT F.d Q) aZ.d (by omega) (wV ah Q.size));rw[aS]at a9;have a7:=Aa (fun W (Q:yG D W) w2 u d (K:Gw W w0.heap.size (.slice am s.data.length ao) w2 u d)=>Ch (AT F.d Q) (F.below Q).b (by decide) K.gr);have a8:=Aa (fun W (Q:yG D W) w2 u d (K:Gw W w0.heap.size (.slice am s.data.length ao) w2 u d)=>(F.below Q).putG (w:=w) (J.o.bt Q ag) ag K);have cp:D.cell? ⟨M,4,none⟩=some (.slice am s.data.length ao):=Ac F.b 4;clear F aS b1 A;go_region_with (go_at_call 165;refine(a9.o _ ?_).mono ?_;(first|exact(wR _ _).drew|exact wR _ _);rintro _ w2 ⟨v',rfl,K⟩;obtain⟨cm,cs,rfl⟩:=An K.own;have aE:=(by first|exact a7.o D (wR _ _) _ _ _ K|exact a7.o D.drew (wR _ _).drew _ _ _ K);have cq:=Ac aE;have ct:=Ak aE;have cy:=Ab aE);all_goals(
   have ba:=Aa (by first|exact a8.o D (wR _ _) _ _ _ K|exact a8.o D.drew (wR _ _).drew _ _ _ K);clear K aE;go_wp2;go_ret;have bK:=ba.o.1;have bL:=ba.o.2;rw[bG.o];exact⟨rfl,⟨_,_,_,bK⟩,bL⟩)
 rw[xG Y]at A;rw[wY Y]at bb;by_cases Z:x.name=Gv
 ·rw[xH Z]at A
  rw[xM Z]at bc;clear Z;have ak:=Aa (oE (h.s.below L.o) ((L.o.block _ (Ab h.t.st.b)).trans h.t.st.b) h.ns N.o aZ br ah);rw[h.en]at A;unfold AQ at ak⊢;clear h aw ad U ae ab az af;go_enter func121,ntmps121;go_wp2_with fail;refine ak.o.mono ?_;rintro _ w2 ⟨rfl,au,ap⟩;have ai:=Aa au;have F2:=Aa (J.o.trans ap);clear au ap;go_wp2;go_ret;rw[A.o];exact⟨rfl,ai.o,F2.o⟩
 rw[xG Z]at A;rw[wY Z]at bc;by_cases R:x.name=FZ
 ·rw[xH R]at A
  rw[xM R]at bd;obtain⟨a,aH⟩:=ad.ar R;simp only[]at aH;have aP:=bJ.o;rw[aH]at aP z3;obtain⟨bX,cn,bh,bm⟩:=Cw aP (fun _=>rfl) 0 a rfl;have bU:=(Value.slice.inj bh).1;subst bU;have ch:w0.cell? ⟨bX,3,none⟩=some (.string a.2.2.2):=by have:=bm 3 _ rfl;simpa using this
  have bM:=Ah L.o ch;have cz:=wW _ _ bM;have ak:=Aa (nV (h.s.below L.o) (h.v.below L.o) ((L.o.block _ (Ab h.t.st.b)).trans h.t.st.b) a.2.2.2 (h.fs a.2.2.2) N.o aZ br ah);have bp:JC E (CI x).2.2=Kg (LO.map Prod.fst) (LI.map Prod.fst) roles a.2.2.2:=by
   have bV:CI x=a.2:=by unfold CI;rw[aH];rfl
   rw[bV];unfold JC Kg GI;rw[h.eo,h.ei,h.er];cases Dx (LO.map Prod.fst) (LI.map Prod.fst) a.2.2.2<;>rfl
  rw[bp]at A;unfold AQ at ak⊢;clear h aw ad U ae ab az af bp bm bh aP R aH;go_enter func121,ntmps121;go_wp2_with fail;refine ak.o.mono ?_;rintro _ w2 ⟨rfl,au,ap⟩;have ai:=Aa au;have F2:=Aa (J.o.trans ap);clear au ap;go_wp2;go_ret;rw[A.o];exact⟨rfl,ai.o,F2.o⟩
 rw[xG R]at A;rw[wY R]at bd;obtain⟨d,hd, -,hid,aY,aX⟩:=ad.or Y Z R;simp only[]at hd hid aY aX;rw[X]at hd;rw[X,hd]at A;obtain⟨aB,a2,u,av,aU,bk⟩:=oZ h.s h.g aI hd;have aV:=Rq hd;have aW:d∈(E.obj r.1).fields:=by rw[X];exact aV.1
 have bo:Fw E (EM r d.name) d.ty:=aG.f d aW (by rw[X,aV.2];exact hd);have aK:=Aa (show al=Cg s.data.length (Er E (AV E f) r d (x,n) s).1 (Dk d.ty) (Er E (AV E f) r d (x,n) s).2 from A.o);have aO:=Aa (fun(I:World) (H:FT w0.heap.size kM w I) (b6:MK I w0.heap.size M T V pp.length s)=>oD h b5 aw (hb.trans H.below) b6 ax bY b4 bq bn (U.ft H) a0 av aU bo ae (fun e=>⟨hid e,h.ok.sch.idt _ (AM.obj_mem aG.k) d aW e⟩) b0 aY aX b8 (H.own af (by decide)));have aD:=Za h.sz (GX E f) (JK h.sz f) r a0 d (x,n) s ax.p;have aF:=Qk E (GX E f) r d (x,n) s;have aC:=YZ E (NO E f) r d (x,n) s s.data.length (wQ _);have aT:=uV E f r d (x,n) s;generalize Er E (AV E f) r d (x,n) s=cd at*;obtain⟨how1,a3⟩:=cd;simp only[]at aK aO aD aF aC aT;have bl:RB 10000 25010050 a3:=by
  have q:=ax.gr aD.1 aF (by have:=aD.2;unfold LB at this;omega);simpa using q
 obtain⟨aJ,rfl,bu,bf⟩:=aU.st;have aM:=Aa (fun(I:World) (H:MK I w0.heap.size M T V pp.length a3) (b9:w0.heap.size<=I.heap.size)=>Sg s.data.length how1 (Dk d.ty) H (bl.room (by omega) (by omega)) aC (Rh aC bn) (.inl (by rw[aF.1];exact bq)) aT b9);have a4:=Aa (fun(I:World) (H:FT w0.heap.size kM w I)=>bk I (hb.trans H.below));have aj:=Aa (fun(I:World) (H:FT w0.heap.size kM w I)=>xZ (((hb.trans H.below).cell (p:=⟨B,G+2,none⟩) bs).trans bw) (xZ (((hb.trans H.below).cell (p:=⟨aB,a2+5,none⟩) (wW w0 _ av.c5)).trans av.c5) (xZ (((hb.trans H.below).cell (p:=⟨aJ,3,none⟩) bu).trans bf) (U.a I H).c0)));have ca:=wW w0 _ av.c5;unfold AQ at aO aM⊢;clear h aw ad U ae ab az af av aU bk bo hid aY aX aD aF aC aT bl A aW aV hd Y Z R aG a0 X aI bf;generalize Dk d.ty=st at*;generalize Cg s.data.length how1 st a3=z at*;obtain⟨ci,sz⟩:=z;simp only[]at aM;have bF:=Aa (show al=(ci,sz)from aK.o);clear aK;go_enter func121,ntmps121;go_wp2_with fail;generalize w.alloc (.cells #[.pointer (some ⟨B,G,none⟩),.slice O n.length P] 254)=D at*;have aN:=Aa (fun i (C:FT w0.heap.size kM D i)=>xZ C (xZ (Ac (C.at aA.o (by decide))) (xZ (aj.o i (J.o.trans C)).1 (xZ (aj.o i (J.o.trans C)).2.2.2 (xZ (xA (Ab aA.o) C.size) (xZ (xA bs (wV ah C.size)) (wW _ _ (aj.o i (J.o.trans C)).2.2.2)))))));have a5:=Aa (a4.o D.drew J.o.dr);clear z2 z3;go_cut [7] (fun v7 wc=>v7=.pointer (some ⟨aB,a2,none⟩)/\yG D wc)
 case first=>
  go_region_held3 (fun i=>FT w0.heap.size kM D i/\(∀j,i.cell? ⟨w.heap.size,j,none⟩=(#[.pointer (some ⟨B,G,none⟩),.slice O n.length P]:Array Value)[j]?)/\i.cell? ⟨B,G+2,none⟩=some (.string x.name)/\i.cell? ⟨g,o,none⟩=some (.pointer (some ⟨gO,r.1*4,none⟩))/\w.heap.size<i.heap.size/\B<i.heap.size/\g<i.heap.size)
   (first|exact aN.o _ (FT.refl _ _ _).dr|exact aN.o _ ((FT.refl _ _ _).dr.bt aQ ah))
   (first|(go_at_call 142;refine a5.o.mono ?_;rintro _ w6 ⟨rfl,aQ⟩))
  all_goals(
   have bE:=Aa (show yG D w6 from(wR _ _).drew.trans aQ);clear aQ
   (try go_wp2_with fail)
   go_meet;exact⟨rfl,bE.o⟩)
 case rest=>
  obtain⟨rfl,aa⟩:=hcut;have F2:=Aa (J.o.bt aa ag);have ai:=Aa (N.o.below aa);have a6:=Aa ((aa.block _ (Ab aA.o)).trans aA.o);obtain⟨ce,cf,cg,F⟩:=N.o.below aa;obtain⟨am,ao,bO,bR,bP,bS,rfl,rfl,rfl⟩:=F.slices;have c2:=Ac F.b;have cw:=Ab F.b;have a1:w0.heap.size<=wc.heap.size:=wV ah aa.size;have bH:=Aa (aO.o wc.drew F2.o.dr (ai.o.below (wR _ _).drew));have aL:=Aa (fun i (C:FT w0.heap.size kM wc i)=>xZ C (xZ (Ac (C.at a6.o (by decide))) (xZ (aj.o i (F2.o.trans C)).2.1 (xZ (aj.o i (F2.o.trans C)).2.2.1 (xZ (xA (Ab a6.o) C.size) (xZ (xA ca (wV a1 C.size)) (xA bu (wV a1 C.size))))))));clear aa F aN a5 a4 N;go_wp2;go_region_held3 (fun i=>FT w0.heap.size kM wc i/\(∀j,i.cell? ⟨w.heap.size,j,none⟩=(#[.pointer (some ⟨B,G,none⟩),.slice O n.length P]:Array Value)[j]?)/\i.cell? ⟨aB,a2+5,none⟩=some (.pointer (some ⟨aJ,0,none⟩))/\i.cell? ⟨aJ,3,none⟩=some (.bool st)/\w.heap.size<i.heap.size/\aB<i.heap.size/\aJ<i.heap.size)
   (first|exact aL.o _ (FT.refl _ _ _).dr|exact aL.o _ ((FT.refl _ _ _).dr.trans aq)|exact aL.o _ (((FT.refl _ _ _).dr.trans aq).trans aR))
   (first|(go_at_call 168;refine bH.o.mono ?_;rintro _ w6 ⟨rfl,bi,aq⟩)|(go_at_call 78;refine(aM.o _ bi (wV a1 ((FT.refl _ _ wc).dr.trans aq).size)).mono ?_;rintro _ w7 ⟨rfl,bj,aR⟩))
  all_goals(
   have bD:=Aa bj;have bC:=Aa (F2.o.trans (((FT.refl _ _ _).dr.trans aq).trans aR));clear bi aq bj aR;go_wp2;go_ret;rw[bF.o];exact⟨rfl,bD.o,bC.o⟩)
end
theorem JY.z{E:CG}{parts:List Ai}{whole:Nat}{m:List Bool}(h:JY E parts whole m):∀i,(∃T,Dl E parts whole i T)->∀x∈(Ax parts i).sels,x.kind≠0->∃j,x.part=some j/\∃T,Dl E parts whole j T:=by
 rintro i ⟨T,b⟩ x g e;have a:=h.loc i T b x g;unfold Ju Dn at a;by_cases d:x.conds.all (fun c=>Dy c.2 JB true)=true
 ·rw[xH d,xG e]at a
  cases f:x.part with
  |none=>rw[f]at a;simp at a
  |some j=>exact⟨j,rfl,_,.kid b g (by unfold Fz;rw[f];simp only[Option.bind_some];rw[xG e])⟩
 ·rw[xG d]at a;simp at a
section
variable {w0:World} {S:Nat} {vR vO vI vU vN:Value} {LR:List (Au×Value)} {LO:List AX} {LI:List (At×Value)} {LU:List (Aw×Value)} {names:List yF} {T Mm gO Bs V:Nat} {vL:Value} {qs:List AE} {rows:List (yF×MR)} {vid:yF} {roles:List yF} {Bq:Nat} {pp:List Nat} {whole:Nat} {m:List Bool} {E:AM} {M f:Nat}
theorem nY(j:MX w0 S vR vO vI vU vN LR LO LI LU names T Mm gO Bs V vL qs rows vid roles Bq pp whole m E)(dI:f+1<=5001)(cf:JU w0 gO LO T V pp whole m E M f):JU w0 gO LO T V pp whole m E M (f+1):=by
 intro w s r I ds g o dv l hb cd bh dE dH bp aP aQ au di br;have ak:=hb.size;have dj:=bh.room (by omega) (by omega);obtain⟨y,bu⟩:∃y,LO[r.1]?=some y:=⟨_,wS (by have:=aP.k;rw[j.eo,xT]at this;exact this)⟩;have cx:E.obj r.1=y.1:=by unfold AM.obj;rw[j.eo,List.getD_eq_getElem?_getD,xI,bu];rfl
 have ch:=j.ok.safe.z;have bM:=Aa (fun(v:World) (Y:FT w0.heap.size kM w v) (t:Aj) (ar:MK v w0.heap.size M T V pp.length t)=>(show Calls prog 118 #[.pointer (some ⟨M,0,none⟩),.pointer (some ⟨gO,r.1*4,none⟩),ds] v fun e w'=>∃bw C,e=.returned bw/\yG v w'/\KI w' w0 Bq v.heap.size pp bw C/\C.map Prod.fst=DG E.parts (AW (E.obj r.1) E.uns) I from by
  obtain⟨d1,d2,d3,D⟩:=ar;have q:=dO j.s j.g j.p j.n j.ok.safe.pin j.sl j.ks j.pl ch y bu (hb.trans Y.below) D.b j.t.st.b (Y.own br (by decide)) (fun p ai=>by
   obtain⟨a7,K,_⟩:=au.t p ai;exact⟨j.ok.safe.lt K,a7,K⟩) di
  rw[cx,j.eu];exact q))
 have bR:=Aa (fun(x:QF) (D:x∈DG E.parts (AW (E.obj r.1) E.uns) I)=>j.ok.fld aP au D);have bX:=Aa (fun(x:QF) (D:x∈DG E.parts (AW (E.obj r.1) E.uns) I)=>j.sz.key _ _ x D);have bj:(DG E.parts (AW (E.obj r.1) E.uns) I).length<=10000000/\∀x∈DG E.parts (AW (E.obj r.1) E.uns) I,x.2.length<=10000000:=by
  have K:=dM (of:=AW (E.obj r.1) E.uns) j.ok.safe.pin j.sl I (fun p ai=>by obtain⟨a7,K,_⟩:=au.t p ai;exact j.ok.safe.lt K);have aI:=j.pl;exact⟨by have:=ZA (DG E.parts (AW (E.obj r.1) E.uns) I);omega,fun x D=>by have:=Tq _ x D;omega⟩
 have cM:=Aa (fun(x:QF) (D:x∈DG E.parts (AW (E.obj r.1) E.uns) I)=>(show∀a∈x.1.args,a.2.2.2.size<=4000 from by
  obtain⟨⟨p,ai,i,a7,dR,cB,dX,av,dQ⟩, -⟩:=UG au.t x D;exact j.ag _ (wT (Lp av)) x.1 av))
 obtain⟨X,a2⟩:∃X,Hi (X=AV E (f+1) r I s):=⟨_,Aa rfl⟩;rw[<-a2.o];rw[AV]at a2;have aW:=Aa (fun(v:World) (t:Aj) (x:As) (O P:Nat) (h:List Nat) (bx:Value) (cD:Nat) (Y:FT w0.heap.size kM w v) (ar:MK v w0.heap.size M T V pp.length t) (aI:RB 0 0 t) (L:0<=t.left) (af:t.left<f) (aJ:t.path≠[]) (aK:DL 1 t) (ah:(x,h)∈DG E.parts (AW (E.obj r.1) E.uns) I) (aL:Fg w0 Bq pp O P x) (c9:v.ownsRow cD 120 1 bx h.length (Bz pp h))=>nT j (by omega) cf (hb.trans Y.below) ar aI L af aJ aK (bp.ft Y) aP aQ (bR.o _ ah) aL (cM.o _ ah) (bj.2 _ ah) c9);have bU:=Aa (fun(x:QF) (D:x∈DG E.parts (AW (E.obj r.1) E.uns) I) {t cB:Aj}=>Xk j.sz (GX E f) (JK j.sz f) r aQ (bX.o x D) (s:=t) (s1:=cB));have bP:=Aa (fun(x:QF) (t:Aj) (n:Nat) (c8:DL n t)=>UX E (NO E f) r x t n c8);have b3:=Aa (fun(x:QF) (t:Aj)=>OQ E (GX E f) r x t);have bT:=Aa (fun(x:QF) (t:Aj) (ai:PB t)=>UY j.sz (GX E f) (JK j.sz f) r aQ x t ai);have cQ:=Aa (fun(c:QF) (cz:List QF) (i H:Nat) (t:Aj)=>(show Cv E (AV E f) r (c::cz) i H t=_ from Cv.eq_2 E (AV E f) r i H t c cz));have cR:=Aa (fun(i H:Nat) (t:Aj)=>(show Cv E (AV E f) r [] i H t=(H,t.write [125])from Cv.eq_1 E (AV E f) r i H t));generalize Cv E (AV E f) r=b7 at*;generalize DI E (AV E f) r=aS at*;generalize DG E.parts (AW (E.obj r.1) E.uns) I=Z at*;have cJ:=Aa (fun(v:World) (Y:FT w0.heap.size kM w v)=>(bp.a v Y).c0);have cI:=Aa hb;have a6:=Aa (Je ⟨#[123]⟩ (by decide) cd dj ak);have cY:=Aa (show RB 1 0 (s.write [123])from bh.write [123]);have cN:=Aa (show DL 1 (s.write [123])from by show 1<=(s.data++[123]).length;simp);obtain⟨dz,dC,rfl⟩:=An br;unfold AQ at a6 aW⊢;have c2:=Aa (show(s.write [123]).path=s.path/\(s.write [123]).left=s.left from⟨rfl,rfl⟩);clear hb cd bh j cf bp aP aQ au br ch cx bu bR;generalize s.write [123]=s1 at*;have dG:=bj.1;clear bj;go_enter func79,ntmps79;go_wp2_with fail;refine a6.o.mono ?_;rintro _ w1 ⟨rfl,K,f1⟩;have bD:=Aa K;have bz:=Aa f1;have c0:=cJ.o w1 f1;have dT:=wW w1 _ c0;have bL:=Aa (bM.o w1 f1 s1 K);clear K f1 a6 bM;go_wp2_with fail;refine bL.o.mono ?_;rintro _ w2 ⟨bw,C,rfl,a8,bk,bg⟩;have bE:=Aa (bD.o.below a8);have F2:=Aa (bz.o.bt a8 ak);have bN:=Aa bk;have bY:=Aa bg;have dF:C.length<=10000000:=by have:=congrArg List.length bg;rw[xT]at this;omega
 obtain⟨c4,b8,rfl⟩:=An bk.f;have dP:w0.heap.size<=w2.heap.size:=wV ak F2.o.size;clear a8 bk bg bL bD bz c0;go_wp2;go_loopg [6,7,8,9,10,11,22] C.length (fun dm v6 v7 v8 v9 v10 v11 v22 wr=>∃(t H:Nat) (A:Aj),v22=.int .i64 t/\v7=.int .i64 H/\t<=C.length/\C.length-t<=dm/\MK wr w0.heap.size M T V pp.length A/\FT w0.heap.size kM w wr/\KI wr w0 Bq w1.heap.size pp (.slice c4 C.length b8) C/\RB 1 0 A/\A.path=s1.path/\DL 1 A/\A.left<=s1.left/\X=b7 (Z.drop t) t H A)
 case atStart=>exact⟨0,0,s1,rfl,rfl,wZ _,wQ _,bE.o,F2.o,bN.o,cY.o,rfl,cN.o,Int.le_refl _,a2.o⟩
 case round=>
  obtain⟨t,H,A,rfl,rfl,dL,dN,ce,bd,cc,cg,ct,cm,de,hrel⟩:=hrel;have aZ:=Aa ce;have aV:=Aa bd;have am:=Aa cc;have U:=Aa cg;have cU:=Aa ct;have dw:=Aa cm;have aD:=Aa hrel;have dc:=bd.size;have cw:w0.heap.size<=wr.heap.size:=wV ak dc;clear ce bd cc cg ct cm hrel bE F2 bN;by_cases cr:t<C.length
  ·have D:=wS cr
   have bn:C[t]∈C:=List.getElem_mem cr;generalize C[t]=c at D bn;obtain⟨⟨x,h⟩,⟨O,P⟩,bx⟩:=c;have bs:Z[t]?=some (x,h):=by rw[<-bY.o,xI,D];rfl
   have cn:Z.drop t=(x,h)::Z.drop (t+1):=by
    obtain⟨df,aH⟩:=wU.1 bs;rw[xX df,aH]
   have a0:=Aa (wT bs);obtain⟨bc,dD,e,bi⟩:=Cw am.o.f (fun _=>rfl) t _ D;have c7:=(Value.slice.inj e).1;subst c7;have cC:wr.cell? ⟨bc,t*2,none⟩=some (.pointer (some ⟨O,P,none⟩)):=by simpa using bi 0 _ rfl
   have dt:wr.cell? ⟨bc,t*2+1,none⟩=some bx:=bi 1 _ rfl;have dU:=wW wr _ cC;have a5:=Aa (am.o.sel _ bn);have aB:=Aa (am.o.own t _ D);simp only[]at a5 aB;obtain⟨ab,ad,rfl⟩:=An aB.o;have dK:(t:Int)<C.length:=by omega
   have aw:=Aa (show X=_ from by rw[aD.o,cn,cQ.o]);have ap:=bA (wR wr.heap.size wr) (.cells #[.pointer (some ⟨O,P,none⟩),.slice ab h.length ad] 254);have bG:=Aa (wX wr (.cells #[.pointer (some ⟨O,P,none⟩),.slice ab h.length ad] 254));have aa:=Aa (WS (aZ.o.below ap) (U.o.room (by omega) (by omega)));have az:=Aa (aV.o.bt ap ak);have bK:=Aa (am.o.ft (B:=w0.heap.size) (FT.of_below ap cw));have b2:=Aa (AT aB.o ap);unfold AQ at aa;clear bi D cn bn ap aZ aV aD bs e am aB;have aE:=Aa (show A.step.left=A.left-1 from rfl);by_cases bo:A.left-1<0
   ·have aq:decide ((0:Int)<=A.left-1)=false:=by simp;omega
    have ax:=Aa (show X=(2,A.step)from by rw[aw.o,xH (by rw[aE.o];exact bo)]);rw[aq]at aa;clear aq bo aw;generalize A.step=u at*;go_wp2_with fail;refine aa.o.mono ?_;rintro _ w3 ⟨rfl,L,G⟩;have R:=Aa L;have Q:=Aa (az.o.trans G);clear L G;go_wp2;go_ret;rw[ax.o];exact⟨rfl,R.o,Q.o⟩
   ·have aq:decide ((0:Int)<=A.left-1)=true:=by simp;omega
    rw[aq]at aa;have bq:¬A.step.left<0:=by rw[aE.o];exact bo
    have cl:=Rf t A;obtain⟨u,aR⟩:∃u,u=(if 0<t then A.step.write [44]else A.step):=⟨_,rfl⟩;have ax:=Aa (show X=b7 (Z.drop (t+1)) (t+1) (if (aS (x,h) ((u.enter (AK (x,h))).write (AK (x,h)++[58]))).1=true then H else 2) ((aS (x,h) ((u.enter (AK (x,h))).write (AK (x,h)++[58]))).2.leave u.path.length)from by rw[aw.o,xG bq,aR]);have a3:=Aa (show Eu A.step from by
     have q:=U.o.room (by omega) (by omega);exact⟨q.d,q.e,q.p,by rw[aE.o];omega,by rw[aE.o];have:=q.h;omega⟩)
    have aF:=Aa (fun(v:World) (j:MK v w0.heap.size M T V pp.length A.step) (bv:w0.heap.size<=v.heap.size)=>Je ⟨#[44]⟩ (by decide) j a3.o bv);unfold AQ at aF;have b4:=Aa aR;rw[<-aR]at cl;obtain⟨a9,aH,ca,cb⟩:=cl;have J:=Aa (xZ bq (xZ a9 (xZ aH (xZ ca cb))));have cq:u.left=A.left-1:=a9;clear aq aw aR a9 aH ca cb bq;go_wp2_with fail;refine aa.o.mono ?_;rintro _ w3 ⟨rfl,L,G⟩;have R:=Aa L;have Q:=Aa (az.o.trans G);have aT:=Aa (G.at bG.o (by decide));have aU:=Aa (bK.o.ft G);have a1:=Aa (G.own b2.o (by decide));have dl:w0.heap.size<=w3.heap.size:=wV ak (az.o.trans G).size;clear L G aa az bG cC dt bK b2
    go_upto_if 31 with fail
    go_cut [] (fun wc=>MK wc w0.heap.size M T V pp.length u/\FT w0.heap.size kM w wc/\wc.heap[wr.heap.size]?=some (.cells #[.pointer (some ⟨O,P,none⟩),.slice ab h.length ad] 254 (0,0))/\KI wc w0 Bq w1.heap.size pp (.slice (some ⟨bc,0,none⟩) C.length b8) C/\wc.ownsRow w1.heap.size 120 1 (.slice ab h.length ad) h.length (Bz pp h))
    case first=>
     rcases Nat.eq_zero_or_pos t with b9|b9
     ·have a4:=Aa (show u=A.step from by rw[b4.o,xG (by omega)])
      have dd:decide ((0:Int)<(t:Int))=false:=by simp;omega
      go_wp2;go_meet;rw[a4.o];exact⟨R.o,Q.o,aT.o,aU.o,a1.o⟩
     ·have a4:=Aa (show u=A.step.write [44]from by rw[b4.o,xH b9])
      have dd:decide ((0:Int)<(t:Int))=true:=by simp;omega
      have c3:=Aa (aF.o w3 R.o dl);clear aF;go_wp2_with fail;refine c3.o.mono ?_;rintro _ w4 ⟨rfl,af,N⟩;go_wp2;go_meet;rw[a4.o];exact⟨af,Q.o.trans N,N.at aT.o (by decide),aU.o.ft N,N.own a1.o (by decide)⟩
    case rest=>
     obtain⟨af,N,aO,ck,cs⟩:=hcut;have bF:=Aa af;have bB:=Aa N;have bV:=Aa aO;have bH:=Aa ck;have b0:=Aa cs;have ci:yG w0 wc:=cI.o.trans N.below;have cy:=ci.size;obtain⟨dx,dA,dy,dB,cj,dh⟩:=a5.o.ex;have av:=Ah ci (show w0.cell? ⟨O,P+1,none⟩=some (.string x.key)from cj 1 _ rfl);have dV:=wW wc _ av;have c6:=Ac aO;have dW:=Ab aO;have dJ:x.key.size<=4000:=bX.o _ a0.o;clear af N aO ck cs cj dh R Q aT aU a1 aF;obtain⟨F,aM⟩:∃F:yF,F={data:=#[34]}++x.key++{data:=#[34]}:=⟨_,rfl⟩;have aN:F.data.toList=AK (x,h):=by rw[aM];simp[AK,ByteArray.data_append]
     have bf:(F++{data:=#[58]}:yF).data.toList=AK (x,h)++[58]:=by rw[<-aN];simp[ByteArray.data_append]
     have co:=VI (x,h);simp only[]at co;have da:F.size<=4002:=by
      have:F.size=F.data.toList.length:=by simp
      rw[this,aN];omega
     have db:(F++{data:=#[58]}:yF).size<=4003:=by
      have:(F++{data:=#[58]}:yF).size=(F++{data:=#[58]}:yF).data.toList.length:=by simp;rfl
      rw[this,bf,xJ,List.length_singleton];omega
     have aj:Eu u:=by
      obtain⟨dY,cA,dn,dp,dZ⟩:=J.o;have q:=a3.o;have d0:=U.o.d;exact⟨by omega,by rw[dp];exact q.e,by rw[dn];exact q.p,by rw[cA];exact q.l,by rw[cA];exact q.h⟩
     have ay:=Aa (WI F (by omega) bF.o aj cy);rw[aN,aM]at ay;have cp:AK (x,h)≠[]:=by unfold AK;simp
     have cv:¬A.step.left<0:=by have:=J.o.1;omega
     have aC:=Aa (show RB 0 0 ((u.enter (AK (x,h))).write (AK (x,h)++[58]))from U.o.paid (by omega) (by omega) cv J.o.2.1 J.o.2.2.1 J.o.2.2.2.1 J.o.2.2.2.2 (AK (x,h)) (AK (x,h)++[58]) (by omega) (by rw[xJ,List.length_singleton];omega) rfl);have cu:Eu (u.enter (AK (x,h))):=by
      have q:=aC.o.room (by omega) (by omega);exact⟨aj.d,aj.e,q.p,aj.l,aj.h⟩
     have aG:=Aa (fun(v:World) (j:MK v w0.heap.size M T V pp.length (u.enter (AK (x,h)))) (bv:w0.heap.size<=v.heap.size)=>Je (F++{data:=#[58]}) (by omega) j cu bv);rw[bf,aM]at aG;have cV:=Aa (show((u.enter (AK (x,h))).write (AK (x,h)++[58])).path≠[]from UO u _ cp);have bO:=Aa (show DL 1 ((u.enter (AK (x,h))).write (AK (x,h)++[58]))from by
      show 1<=(u.data++(AK (x,h)++[58])).length;simp;omega)
     have bm:((u.enter (AK (x,h))).write (AK (x,h)++[58])).left=u.left:=rfl;have cW:=Aa (show u.path.length<=((u.enter (AK (x,h))).write (AK (x,h)++[58])).path.length from by
      show _<=(Cf u.path++AK (x,h)).length;have K:=Rk u.path (AK (x,h));have aI:=congrArg List.length K;rw[List.length_take]at aI;omega)
     have W:=Aa (bU.o (x,h) a0.o U.o.p (by omega) J.o.2.1 J.o.2.2.1 J.o.2.2.2.1 J.o.2.2.2.2);unfold AQ at ay aG;generalize u.enter (AK (x,h))=dq at*;generalize dq.write (AK (x,h)++[58])=al at*;have aA:=Aa (bT.o (x,h) al aC.o.p);have aY:=Aa (b3.o (x,h) al);have bQ:=Aa (bP.o (x,h) al 1 bO.o);have aX:=Aa (fun(v:World) (j:FT w0.heap.size kM w v) (ar:MK v w0.heap.size M T V pp.length al) (dg:v.ownsRow w1.heap.size 120 1 (.slice ab h.length ad) h.length (Bz pp h))=>aW.o v al x O P h (.slice ab h.length ad) w1.heap.size j ar aC.o (by rw[bm,cq];omega) (by rw[bm,cq];have:=c2.o.2;omega) cV.o bO.o a0.o a5.o dg);generalize aS (x,h) al=z at*;obtain⟨du,sz⟩:=z;simp only[]at ax aA aY bQ W aX;have c1:=Aa (show RB 10000010 50020100 sz from by
      have q:=aC.o.gr aA.o.1 aY.o (by have:=aA.o.2;unfold LB at this;omega);simpa using q)
     have bZ:=Aa (fun(v:World) (j:MK v w0.heap.size M T V pp.length sz)=>WL u.path.length j (c1.o.room (by omega) (by omega)) (by rw[aY.o.1];exact cW.o));unfold AQ at bZ;have cZ:=Aa (show RB 1 0 (sz.leave u.path.length)from by
      have q:=U.o.gr W.o.2.1 W.o.2.2.1 (by show _<=sz.left;have:=W.o.2.2.2;omega);simpa using q)
     have cX:=Aa (show(sz.leave u.path.length).path=s1.path from W.o.2.2.1.1.trans cU.o);have cO:=Aa (show DL 1 (sz.leave u.path.length)from bQ.o);have cT:=Aa (show(sz.leave u.path.length).left<=s1.left from Int.le_trans W.o.2.2.1.2 de);generalize sz.leave u.path.length=dr at*;clear aA W aW bU b3 bP bT aj cu bm a3 J aN bf aM da db cp cv co;go_wp2_with fail;refine ay.o.mono ?_;rintro _ w5 ⟨rfl,aJ,ae⟩;have cE:=Aa (bB.o.trans ae);have b6:=Aa (aG.o w5 aJ (wV cy ae.size));have bW:=Aa (ae.at bV.o (by decide));have bI:=Aa (bH.o.ft ae);have b1:=Aa (ae.own b0.o (by decide));clear aJ ae ay aG bF bB bV bH b0 c6 av;go_wp2_with fail;refine b6.o.mono ?_;rintro _ w6 ⟨rfl,aK,ao⟩;have bC:=Aa (cE.o.trans ao);have bl:=ao.at bW.o (by decide);have c5:=Ac bl;have dS:=Ab bl;have bJ:=Aa (bI.o.ft ao);have bS:=Aa (aX.o w6 bC.o aK (ao.own b1.o (by decide)));clear aK ao b6 bW bI b1 bl aX;go_wp2_with fail;refine bS.o.mono ?_;rintro _ w7 ⟨rfl,ah,ba⟩;have cS:=Aa (bZ.o w7 ah);have cF:=Aa (bC.o.trans ba);have cK:=Aa (bJ.o.ft ba);clear ah ba bS bJ c5;cases du;all_goals(
      go_wp2_with fail;refine cS.o.mono ?_;rintro _ w8 ⟨rfl,aL,bb⟩;have cH:=Aa aL;have cG:=Aa (cF.o.trans bb);have cL:=Aa (cK.o.ft bb);clear aL bb;go_wp2;go_roundg (C.length-(t+1))
      case measure=>omega
      case rel=>exact⟨t+1,_,dr,by go_num,rfl,by omega,wQ _,cH.o,cG.o,cL.o,cZ.o,cX.o,cO.o,cT.o,ax.o⟩)
  ·have dk:t=C.length:=by omega
   subst dk;have cP:=Aa (show X=(H,A.write [125])from by rw[aD.o,show C.length=Z.length from by rw[<-bY.o,xT],List.drop_length,cR.o]);have b5:=Aa (Je ⟨#[125]⟩ (by decide) aZ.o (U.o.room (by omega) (by omega)) cw);unfold AQ at b5;clear aD;go_wp2_with fail;refine b5.o.mono ?_;rintro _ w3 ⟨rfl,L,G⟩;have R:=Aa L;have Q:=Aa (aV.o.trans G);clear L G;go_wp2;go_ret;rw[cP.o];exact⟨rfl,R.o,Q.o⟩
theorem WQ(a:MX w0 S vR vO vI vU vN LR LO LI LU names T Mm gO Bs V vL qs rows vid roles Bq pp whole m E):∀f,f<=5001->JU w0 gO LO T V pp whole m E M f
 |0,_=>fun w s r h i g o c l _ _ _ d e _ _ _ _ _ _=>by omega
 |f+1,b=>nY a b (WQ a f (by omega))
end
def FX(s:Aj):yF:=(if s.errs=[]then(⟨#[123,34,100,97,116,97,34,58]⟩++⟨s.data.toArray⟩:yF)else⟨#[123,34,100,97,116,97,34,58]⟩++⟨s.data.toArray⟩++(⟨#[44,34,101,114,114,111,114,115,34,58,91]⟩++⟨s.errs.toArray⟩++⟨#[93]⟩))++⟨#[125]⟩
theorem nI{w:World}{B0 M T V n:Nat}{s:Aj}(q:MK w B0 M T V n s)(f:Eu s):Calls prog 47 #[.pointer (some ⟨M,0,none⟩)] w fun e w'=>e=.returned (.string (FX s))/\w'=w:=by
 obtain⟨H,I,J,a⟩:=q;obtain⟨r,v,t,x,u,y,rfl,rfl,rfl⟩:=a.slices;have A:=Nk w B0 _ s.data a.d;have B:=Nk w B0 _ s.errs a.e;have c:=Ac a.b;have l:=Ab a.b;have F:(⟨s.data.toArray⟩:yF).size<=70000000000000:=by have:=f.d;show s.data.toArray.size<=_;simpa using this
 have G:(⟨s.errs.toArray⟩:yF).size<=70000000000000:=by have:=f.e;show s.errs.toArray.size<=_;simpa using this
 have j:=Aa (FX.eq_1 s);have i:=Aa (show s.errs=[]↔s.errs.length=0 from⟨fun e=>by rw[e];rfl,xE⟩);generalize FX s=h at*;generalize (⟨s.data.toArray⟩:yF)=DB at*;generalize (⟨s.errs.toArray⟩:yF)=p at*;have D:=f.d;have E:=f.e;generalize s.data.length=z at*;generalize s.errs.length=m at*;clear a f;rcases Nat.eq_zero_or_pos m with k|k
 ·subst k
  have g:=Aa (show h=({data:=#[123,34,100,97,116,97,34,58]}++DB)++{data:=#[125]}from by rw[j.o,xH (i.o.2 rfl)]);go_enter func47,ntmps47;go_wp2;go_ret;rw[g.o];exact⟨rfl,rfl⟩
 ·have C:decide ((0:Int)<(m:Int))=true:=by simp;omega
  have g:=Aa (show h=({data:=#[123,34,100,97,116,97,34,58]}++DB++({data:=#[44,34,101,114,114,111,114,115,34,58,91]}++p++{data:=#[93]}))++{data:=#[125]}from by rw[j.o,xG (fun e=>by have:=i.o.1 e;omega)]);go_enter func47,ntmps47;go_wp2;go_ret;rw[g.o];exact⟨rfl,rfl⟩
def Cc(objs:List Aq)(rows:List (yF×MR)):MR:=(Fl rows bE).getD ((Af (objs.map Aq.name) bQ).toNat,[])
def FW(E:AM)(root:MR)(whole:Nat)(s:Aj):Aj:=(Cg 0 (AV E 5001 root [whole] s).1 false (AV E 5001 root [whole] s).2).2
theorem pB(E:AM)(f:Nat)(r:MR)(a:List Nat)(s:Aj):DL 1 (AV E (f+1) r a s).2:=by
 rw[AV];exact Sk E (NO E f) r _ 0 0 (s.write [123]) 1 (by show 1<=(s.data++[123]).length;simp)
theorem Xt(w:World)(B:Nat)(e:TypeId)(u:Value)(a:B<=w.heap.size):(w.alloc (.cells #[u] e)).ownsRow B e 1 (.slice (some ⟨w.heap.size,0,none⟩) 1 1) 1 [u]:=
 ⟨rfl,.inr ⟨w.heap.size,1,#[u],rfl,a,wX w _,wQ _,by unfold maxLen;omega,rfl,rfl⟩⟩
theorem tD{w0 w:World}{gO:Nat}{LO:List AX}{b k:Nat}(h:k<LO.length)(hb:w.heap[b]?=some (.cells #[.pointer (some ⟨gO,k*4,none⟩),.string ⟨#[]⟩,.slice none 0 0] 97 (0,0))):Hn w0 w gO LO b 0 [] (k,[]):=by
 refine⟨fun l e=>?_,fun n=>?_⟩
 ·have d:=e.at hb (by decide)
  exact⟨h,Ac d 0,⟨.slice none 0 0,Ac d 2,⟨none,0,rfl,wQ _,.inl rfl⟩⟩,by simp,rfl,fun j c x a=>by simp at a,fun c a=>by cases a⟩
 ·exact⟨rfl,rfl,rfl,rfl,[],rfl,.inl rfl,fun i f x g=>by simp at g⟩
section
variable {w0:World} {S:Nat} {vR vO vI vU vN:Value} {LR:List (Au×Value)} {LO:List AX} {LI:List (At×Value)} {LU:List (Aw×Value)} {names:List yF} {T Mm gO Bs V:Nat} {vL:Value} {qs:List AE} {rows:List (yF×MR)} {vid:yF} {roles:List yF} {Bq:Nat} {pp:List Nat} {whole:Nat} {m:List Bool} {E:AM} {M:Nat}
theorem nH(a:MX w0 S vR vO vI vU vN LR LO LI LU names T Mm gO Bs V vL qs rows vid roles Bq pp whole m E)(au:Jw E (Cc (LO.map Prod.fst) rows))(N:Et (Cc (LO.map Prod.fst) rows))(av:MN E whole m (Cc (LO.map Prod.fst) rows) [whole])(A:¬Af (LO.map oN) bQ<0)
 {w:World} {s:Aj} (hb:yG w0 w) (Z:MK w w0.heap.size M T V pp.length s) (y:RB 0 0 s) (aF:0<=s.left) {d:Nat} (aI:pp[whole]?=some d):
 Calls prog 46 #[.pointer (some ⟨M,0,none⟩),.pointer (some ⟨d,0,none⟩)] w (AQ w w0.heap.size M T V pp.length (.tuple #[]) (FW E (Cc (LO.map Prod.fst) rows) whole s)):=by
 have n:=hb.size;have aq:Bz pp [whole]=[.pointer (some ⟨d,0,none⟩)]:=by simp[Bz,AO,aI]
 have u:=Aa (fun(f:World) (g o:Nat) (l:List BU) (ad:FT w0.heap.size kM w f) (aJ:MK f w0.heap.size M T V pp.length s) (aK:Hn w0 f gO LO g o l (Cc (LO.map Prod.fst) rows)) (b:Nat) (aL:f.ownsRow w0.heap.size 120 1 (.slice (some ⟨b,0,none⟩) 1 1) 1 (Bz pp [whole]))=>WQ a 5001 (wQ _) f s (Cc (LO.map Prod.fst) rows) [whole] (.slice (some ⟨b,0,none⟩) 1 1) g o w0.heap.size l (hb.trans ad.below) aJ y aF (by have:=y.h;omega) aK au N av (by simp) aL);have W:=(JK a.sz 5001).g (Cc (LO.map Prod.fst) rows) [whole] s N y.p;have Y:=(JK a.sz 5001).l (Cc (LO.map Prod.fst) rows) [whole] s N y.p;have aa:=GX E 5001 (Cc (LO.map Prod.fst) rows) [whole] s;have U:=pB E 5000 (Cc (LO.map Prod.fst) rows) [whole] s;have X:=Xj E 5001 (Cc (LO.map Prod.fst) rows) [whole] s;have K:=Aa (FW.eq_1 E (Cc (LO.map Prod.fst) rows) whole s);generalize FW E (Cc (LO.map Prod.fst) rows) whole s=aO at*;generalize AV E 5001 (Cc (LO.map Prod.fst) rows) [whole] s=aN at*;obtain⟨how1,ai⟩:=aN;simp only[]at K u W aa U X Y;have ao:RB 2 0 ai:=by
  have q:=y.gr W aa (by unfold LB at Y;omega);simpa using q
 have L:=Aa (fun(f:World) (ad:MK f w0.heap.size M T V pp.length ai) (aM:w0.heap.size<=f.heap.size)=>Sg 0 how1 false ad (ao.room (by omega) (by omega)) (wZ _) (Rh U (by omega)) (.inr rfl) X aM);have az:=Aa (Vc a.t hb ⟨#[]⟩ (by decide));have J:=Aa (NX w S vR vO vI vU vN LR LO LI LU names bQ (a.s.below hb));have ab:=(hb.block _ (Ab a.t.st.b)).trans a.t.st.b;have aD:=Ac ab;have aQ:=Ab ab;have ae:=MK.c01 ⟨s,Z⟩;have aC:=ae.1;have aP:=ae.2.2;have ak:=Aa Z;have ay:=Aa hb;obtain⟨c0,aw⟩:=a.g;obtain⟨i,af⟩:∃i:Nat,Af (LO.map oN) bQ=i:=⟨_,(Int.toNat_of_nonneg (by omega)).symm⟩;rw[show AC vO 4 (Af (LO.map oN) bQ)=.pointer (some ⟨gO,i*4,none⟩)from by rw[aw];unfold AC;rw[xG A,af];rfl]at J;have aH:i<LO.length:=by have aG:=(Ib (LO.map oN) bQ).2;rw[xT]at aG;omega
 have v:=Aa (Cc.eq_1 (LO.map Prod.fst) rows);rw[show(LO.map Prod.fst).map Aq.name=LO.map oN from by rw[List.map_map];rfl,af,xS]at v;have aj:=Aa (show Fl rows bE=Fl rows ⟨#[]⟩from rfl);generalize Cc (LO.map Prod.fst) rows=RT at*;rw[aj.o]at v;generalize Fl rows ⟨#[]⟩=aE at*;have al:=Aa aq;unfold AQ at u L⊢;clear a hb Z y au N av ae ab aq af W aa U X ao Y aw A aj;generalize Cg 0 how1 false ai=z at*;obtain⟨aR,sz⟩:=z;simp only[]at K L;go_enter func46,ntmps46;go_wp2_with fail;refine az.o.mono ?_;rintro _ w1 ⟨⟨q,rfl,A⟩,ag⟩;have ag:=ag.symm;subst ag;cases aE with
 |none=>
  have e:q=none:=A;subst e;have D:=Aa (show RT=(i,[])from v.o);clear A v;go_wp2_with fail;refine J.o.mono ?_;rintro _ w2 ⟨rfl,am⟩;have ap:=bA (wR w2.heap.size w2) (.cells #[.pointer (some ⟨gO,i*4,none⟩),.string ⟨#[]⟩,.slice none 0 0] 97);have aA:=Aa (wX w2 (.cells #[.pointer (some ⟨gO,i*4,none⟩),.string ⟨#[]⟩,.slice none 0 0] 97));have R:=Aa (bT am ap);clear am ap J aD aC;go_upto_region 3 with fail;generalize w2.alloc (.cells #[.pointer (some ⟨gO,i*4,none⟩),.string ⟨#[]⟩,.slice none 0 0] 97)=x at*;have c:=bA (wR x.heap.size x) (.cells #[.pointer (some ⟨d,0,none⟩)] 120);have ax:w0.heap.size<=x.heap.size:=wV n R.o.size;have B:=Aa (Xt x w0.heap.size 120 (.pointer (some ⟨d,0,none⟩)) ax);have j:=Aa (show FT w0.heap.size kM w _ from FT.of_below (bT R.o c) n);have C:=Aa (u.o _ w2.heap.size 0 [] j.o (ak.o.below (bT R.o c)) (by rw[D.o];exact(tD aH aA.o).ft (FT.of_below c ax)) x.heap.size (by rw[al.o];exact B.o));have ah:w0.heap.size<=(x.alloc (.cells #[.pointer (some ⟨d,0,none⟩)] 120)).heap.size:=wV n j.o.size;clear c B u D;go_wp2_with fail;refine C.o.mono ?_;rintro _ w4 ⟨rfl,H,k⟩;have F:=Aa (L.o w4 H (wV ah k.size));have O:=Aa (j.o.trans k);clear H k C;go_wp2_with fail;refine F.o.mono ?_;rintro _ w5 ⟨rfl,I,G⟩;have Q:=Aa I;have P:=Aa (O.o.trans G);clear I G F;go_wp2;go_end0;rw[K.o];exact⟨rfl,Q.o,P.o⟩
 |some r=>
  obtain⟨g,o,l,e,ar⟩:=A;subst e;have D:=Aa (show RT=r from v.o);have aB:=Aa ar;clear ar v J;have c:=bA (wR w.heap.size w) (.cells #[.pointer (some ⟨d,0,none⟩)] 120);have B:=Aa (Xt w w0.heap.size 120 (.pointer (some ⟨d,0,none⟩)) n);have j:=Aa (show FT w0.heap.size kM w _ from FT.of_below c n);have C:=Aa (u.o _ g o l j.o (ak.o.below c) (by rw[D.o];exact Hn.of aB.o (ay.o.trans (c.mono n))) w.heap.size (by rw[al.o];exact B.o));have ah:w0.heap.size<=(w.alloc (.cells #[.pointer (some ⟨d,0,none⟩)] 120)).heap.size:=wV n j.o.size;clear c B u D;go_wp2_with fail;refine C.o.mono ?_;rintro _ w4 ⟨rfl,H,k⟩;have F:=Aa (L.o w4 H (wV ah k.size));have O:=Aa (j.o.trans k);clear H k C;go_wp2_with fail;refine F.o.mono ?_;rintro _ w5 ⟨rfl,I,G⟩;have Q:=Aa I;have P:=Aa (O.o.trans G);clear I G F;go_wp2;go_end0;rw[K.o];exact⟨rfl,Q.o,P.o⟩
end
end Go.Proofs.YtogdodlibkckkaaGreatDoor
