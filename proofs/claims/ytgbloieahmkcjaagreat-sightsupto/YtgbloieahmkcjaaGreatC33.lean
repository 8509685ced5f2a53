import Derived.Test.YtgbloieahmkcjaaGreatC32
import Derived.Test.YtgbloieahmkcjaaGreatC20
import Derived.BigQuiet
import Derived.Deep.RegionHeld3
namespace Go.Proofs.YtgbloieahmkcjaaGreat
set_option maxHeartbeats 20000000
set_option maxRecDepth 100000
open Go.RowKit Tryz
theorem H7(f:Nat):zA f:=by
 induction f using Nat.strongRecOn with
 |ind f ih=>
  intro d D s w b G hD h hf;obtain⟨f0,rfl⟩:∃f0,f=f0+1:=⟨f-1,by omega⟩;exact Dp f0 d D s w b G h (fun W hW e=>Eh f0 d D hD (fun f1 h1=>ih f1 (by omega)) (tl s) W b G hW.ps (by have:=eY s 12 (by decide) e;omega))
theorem Hj(x:Ls)(w:World)(hs:x.size<=maxLen):
 Calls prog 151 #[.string x] w fun e w'=>∃v:FV,e=.returned (.tuple #[bw v,.bool (jV x)])/\Lt w w'/\(jV x=true->bI w' (NB w w') 1603 v (pv (du x))):=by
 have HR:=aa (fun W=>yg x W hs);have HT:=aa (fun W b G (hW:PS W b G (av x))=>H7 1603 0 10 (av x) W b G rfl hW (by have:=hW.len;omega));have HD:=aa (fun W b G (hW:PS W b G (bz 1603 0 (av x)).2)=>CR W b G _ hW);rw[<-Ad]at HD;have HO:=aa (show jV x=jv (bz 1603 0 (av x)).2/\du x=(bz 1603 0 (av x)).1 from⟨rfl,rfl⟩);have HN:=aa (show jv (bz 1603 0 (av x)).2=true->(bz 1603 0 (av x)).2≠none from fun h e=>by rw[e]at h;cases h);unfold oy at HT;generalize jV x=ok at*;generalize du x=vo at*;generalize bz 1603 0 (av x)=q at*;obtain⟨q1,q2⟩:=q;simp only[]at HT HD HO HN;obtain⟨e1,e2⟩:=HO.o;subst e1 e2;clear HO;generalize av x=s0 at*;generalize jv q2=ok at*;go_enter func151,ntmps151;go_wp2_with fail;refine(HR.o _).mono ?_;rintro _ w1 ⟨b,G,rfl,hb,hps,b1⟩;have B1:=aa (bT (bA (KL w.heap.size w) _) b1);have HZ:=aa ((b1.block _ (by simp)).trans (KS w _));have HPS:=aa hps;have hl1:=ag HZ.o;have hbw:w.heap.size<b:=by have:=hb;simp at this;omega
 clear hb hps b1 HR;go_wp2_with fail;refine(HT.o _ _ _ HPS.o).mono ?_;rintro _ w2 ⟨v,rfl,k2,hv⟩;unfold bw;have hZ2:=k2.kp.at HZ.o (by omega);have HZ2:=aa hZ2;have hl2:=ag hZ2;have K2:=aa k2;have HV:=aa hv;have B2:=aa (bK B1.o k2.kp (by omega));clear hZ2 k2 hv HT;go_wp2_with fail;have hN:=KS w2 (.cells #[.int .i64 v.sh,.int .i64 v.n,.string v.s,.slice v.la v.ln v.lc] 171);have hR3:=(bp w2 (.cells #[.int .i64 v.sh,.int .i64 v.n,.string v.s,.slice v.la v.ln v.lc] 171) _ hl2).trans HZ2.o;have K3:=aa (K2.o.al (.cells #[.int .i64 v.sh,.int .i64 v.n,.string v.s,.slice v.la v.ln v.lc] 171));have B3:=aa (bA B2.o (.cells #[.int .i64 v.sh,.int .i64 v.n,.string v.s,.slice v.la v.ln v.lc] 171));have HV3:=aa (show ok=true->bI (w2.alloc (.cells #[.int .i64 v.sh,.int .i64 v.n,.string v.s,.slice v.la v.ln v.lc] 171)) (fun g=>w1.heap.size<=g/\g<w2.heap.size) 1603 v (pv vo)from fun h=>(HV.o (HN.o h)).frame (fun g hg o=>World.cell?_of_block (a:=⟨g,o,none⟩) (bp _ _ _ hg.2)) (fun g hg=>hg));have hs12:=K2.o.kp.size;have hs3:w2.heap.size<(w2.alloc (.cells #[.int .i64 v.sh,.int .i64 v.n,.string v.s,.slice v.la v.ln v.lc] 171)).heap.size:=by simp
 have hs01:=B1.o.size;generalize w2.alloc (.cells #[.int .i64 v.sh,.int .i64 v.n,.string v.s,.slice v.la v.ln v.lc] 171)=w3 at*;have cN:=ae hN;have hlN:=ag hN;have cR:=ae hR3;have fR:=ar hR3;have hlR:=ag hR3;have hb3:=K3.o.ps.lt;clear hN hR3 HV HZ HZ2;go_region_with (go_at_call 55;refine(HD.o _ b G ?_).mono ?_;(first|exact K3.o.dr.ps|exact K3.o.ps);rintro _ w' ⟨rfl,hw'⟩;have hw':=hw'.symm;subst hw');all_goals(try go_wp2_with fail)
 all_goals(
  refine bodyPost_ret (v:=.tuple #[bw v,.bool ok]) (by simp[results,results151,go_sem,bw, *]) rfl ⟨v,rfl,?_,fun h=>?_⟩
  ·repeat' with_reducible first|exact B3.o|refine bS ?_ _ (KK _) _|refine Below.drew ?_
  ·refine(HV3.o h).frame (fun g hg o=>?_) (fun g hg=>?_)
   ·exact World.cell?_of_block (a:=⟨g,o,none⟩) (fD _ _ g (by have:=hg.1;omega) _ _ _ _)
   ·exact⟨by have:=hg.1;omega,by have:=hg.2;simp[World.setCell];omega⟩)
open Go.Maps Tryz
open Go.ChangeMaps Tryz
abbrev lF:=aH×Value×Value×Value
def mg(uns:List bB)(n m:Ls):Bool:=if ah (uns.map bB.name) n<0 then false else match uns[(ah (uns.map bB.name) n).toNat]? with
 |some u=>ba m u.LB
 |none=>false
def om(o:aH)(uns:List bB)(n:Ls):Bool:=(o.name.toList==n.toList)||(ba n o.LE||mg uns n o.name)
section
variable {w:World} {S:Nat} {vR vO vI vU vN:Value} {LR:List (aj×Value)} {LO:List lF} {LI:List (bC×Value)} {LU:List (bB×Value)} {names:List Ls}
theorem Ek(h:SV w S vR vO vI vU vN LR LO LI LU names)(k:Nat)(x:lF)(hx:LO[k]?=some x)(n:Ls)(gO:Nat)(hg:∃c,vO=.slice (some ⟨gO,0,none⟩) LO.length c):
 Calls prog 208 #[.pointer (some ⟨S,0,none⟩),.pointer (some ⟨gO,k*4,none⟩),.string n] w fun e w'=>e=.returned (.bool (om x.1 (LU.map Prod.fst) n))/\Lt w w':=by
 obtain⟨g,cap,hv,hc⟩:=h.o.cell (fun _=>rfl) k x hx;obtain⟨c0,hv0⟩:=hg;rw[hv0]at hv;have e:=(Value.slice.inj hv).1;have e2:=(Addr.mk.inj (KY e)).1;subst e2;have o0:w.cell? ⟨gO,k*4,none⟩=some (.string x.1.name):=by simpa using hc 0 _ rfl
 have o2:w.cell? ⟨gO,k*4+2,none⟩=some x.2.2.1:=hc 2 _ rfl;obtain⟨_,_,hO3,hO4,_⟩:=h.o.ok x (KN hx);have HIM:=aa (fun W (hW:Lt w W)=>uO n x.2.2.1 x.1.LE W (cH.of_own (bZ hO3 hW)) (by omega));have HSU:=aa (zQ w S vR vO vI vU vN LR LO LI LU names n h);have HUN:=aa (h.u);have hro:=h.rowUnion;obtain⟨aI,cI,hvI⟩:=bc hO3;rw[hvI]at o2 HIM;have hlO:=KQ w _ o0;have HQ:=aa (show om x.1 (LU.map Prod.fst) n=((x.1.name.toList==n.toList)||(ba n x.1.LE||mg (LU.map Prod.fst) n x.1.name))from rfl);clear hc hv hO3 hO4 hx h;generalize om x.1 (LU.map Prod.fst) n=q at*;have HUX:=aa (show mg (LU.map Prod.fst) n x.1.name=if ah (LU.map uN) n<0 then false else match (LU.map Prod.fst)[(ah (LU.map uN) n).toNat]? with|some u=>ba x.1.name u.LB|none=>false from by
  unfold mg;rw[List.map_map];rfl)
 generalize mg (LU.map Prod.fst) n x.1.name=qu at*;cases b1:(x.1.name.toList==n.toList)
 rotate_left
 ·rw[b1]at HQ
  go_enter func208,ntmps208;go_wp2_with fail;go_ret;exact⟨am HQ.o.symm,KL _ _⟩
 rw[b1]at HQ;cases b2:ba n x.1.LE
 rotate_left
 ·rw[b2]at HQ HIM
  go_enter func208,ntmps208;go_wp2_with fail;refine(HIM.o _ (KL _ _)).mono ?_;rintro _ w' ⟨rfl,hw'⟩;have hw':=hw'.symm;subst hw';go_wp2_with fail;go_ret;exact⟨am HQ.o.symm,KL _ _⟩
 rw[b2]at HQ HIM;have HQ2:=aa (show q=qu from HQ.o);clear HQ b2;by_cases hneg:ah (LU.map uN) n<0
 ·rw[K9 hneg]at HUX
  rw[(mJ hro n).1 hneg]at HSU;go_enter func208,ntmps208;go_wp2_with fail;refine(HIM.o _ (KL _ _)).mono ?_;rintro _ w' ⟨rfl,hw'⟩;have hw':=hw'.symm;subst hw';go_wp2_with fail;refine HSU.o.mono ?_;rintro _ w1 ⟨rfl,hb1⟩;have HB1:=aa hb1;clear hb1;go_wp2_with fail;go_quiet (fail);go_wp2_with fail;go_ret;exact⟨am (by rw[HQ2.o,HUX.o]),below_drewN HB1.o _⟩
 ·rw[K8 hneg]at HUX
  obtain⟨j,u,hj,hu,_,hjl⟩:=iW uN LU n hneg;obtain⟨gU,cU,hvU,hcU⟩:=HUN.o.cell (fun _=>rfl) j u hu;have u1:w.cell? ⟨gU,j*2+1,none⟩=some u.2:=hcU 1 _ rfl;obtain⟨hU1,hU2⟩:=HUN.o.ok u (KN hu);obtain⟨aM,cM,hvM⟩:=bc hU1;have HME:=aa (fun W (hW:Lt w W)=>uO x.1.name u.2 u.1.LB W (cH.of_own (bZ hU1 hW)) (by omega));rw[hvM]at u1 HME;rw[hj,Lk,La,hu]at HUX;have HP:=aa (show bx vU 2 (ah (LU.map uN) n)=.pointer (some ⟨gU,j*2,none⟩)from by rw[hj,hvU];unfold bx;rw[K8 (by omega)];rfl);rw[HP.o]at HSU;have HQ3:=aa (show q=ba x.1.name u.1.LB from by rw[HQ2.o,HUX.o];rfl);generalize ba x.1.name u.1.LB=qm at*;generalize x.1.name=nm1 at*;clear HUX HQ2 HP hj hu hvU hcU hU1 hU2 HUN hneg hro hvM hvI;go_enter func208,ntmps208;go_wp2_with fail;refine(HIM.o _ (KL _ _)).mono ?_;rintro _ w' ⟨rfl,hw'⟩;have hw':=hw'.symm;subst hw';go_wp2_with fail;refine HSU.o.mono ?_;rintro _ w1 ⟨rfl,hb1⟩;have o0:=ao hb1 o0;have u1:=ao hb1 u1;have HB1:=aa hb1;clear hb1 o2;go_wp2_with fail;go_quiet ((go_at_call 154;refine Calls.quiet_of_same (HME.o _ (below_drewN HB1.o _))));go_wp2_with fail;go_ret;exact⟨am HQ3.o.symm,below_drewN HB1.o _⟩
end
structure bD where
 k:Nat
 id:Ls
 v:Value
 cs:List eW
def qL(gO:Nat)(r:bD):List Value:=[.pointer (some ⟨gO,r.k*4,none⟩),.string r.id,r.v]
structure jO(w:World)(T S M gO B:Nat)(vL:Value)(rows:List bD):Prop where
 b:w.heap[T]?=some (.cells #[vL,.pointer (some ⟨S,0,none⟩),.map (some M)] 74 (0,0))
 r:w.ownsRow B 107 3 vL rows.length (rows.flatMap (qL gO))
 m:∃D,ie w M rows.length D/\PM (rows.map bD.id) D
 n:(rows.map bD.id).Nodup
 l:rows.length<=201
theorem jO.below{w w':World}{T S M gO B:Nat}{vL:Value}{rows:List bD}(h:jO w T S M gO B vL rows)(hb:Lt w w'):jO w' T S M gO B vL rows:=by
 obtain⟨D,h1,h2⟩:=h.m;exact⟨(hb.block _ (ag h.b)).trans h.b,bZ h.r hb,⟨D,h1.below hb,h2⟩,h.n,h.l⟩
theorem jO.at{w:World}{T S M gO B:Nat}{vL:Value}{rows:List bD}(h:jO w T S M gO B vL rows){j:Nat}{r:bD}(hj:rows[j]?=some r):∃gR cap,vL=.slice (some ⟨gR,0,none⟩) rows.length cap/\w.cell? ⟨gR,j*3,none⟩=some (.pointer (some ⟨gO,r.k*4,none⟩))/\w.cell? ⟨gR,j*3+1,none⟩=some (.string r.id)/\w.cell? ⟨gR,j*3+2,none⟩=some r.v:=by
 obtain⟨g,cap,hv,hc⟩:=dk.cell (ok:=fun _ _=>True) ⟨h.r,fun _ _=>trivial⟩ (fun _=>rfl) j r hj;exact⟨g,cap,hv,by simpa using hc 0 _ rfl,hc 1 _ rfl,hc 2 _ rfl⟩
theorem vk(x:Ls)(h:x.size<=maxLen):keyOf prog 9 (.string x)=some (kl x):=Go.WideMaps.keyOf_string_mk underlying9 h
section
variable {w:World} {T S M gO B:Nat} {vL:Value} {rows:List bD}
theorem AZ(h:jO w T S M gO B vL rows)(x:Ls)(hx:x.size<=maxLen):
 Calls prog 147 #[.pointer (some ⟨T,0,none⟩),.string x] w fun e w'=>e=.returned (bx vL 3 (ah (rows.map bD.id) x))/\w'=w:=by
 obtain⟨D,LJ,hpm⟩:=h.m;obtain⟨aL,cL,hvL⟩:=bc h.r;subst hvL;have MD:=vk x hx;have M7:=hpm.hasP x;have c:=ae h.b;have hrl:=h.l;by_cases hneg:ah (rows.map bD.id) x<0
 ·rw[show ba x (rows.map bD.id)=false from pO _ _ (fun e=>by have:=un _ _ e;omega)]at M7
  have HP:=aa (show bx (.slice aL rows.length cL) 3 (ah (rows.map bD.id) x)=.pointer none from by unfold bx;rw[K9 hneg]);generalize bx (.slice aL rows.length cL) 3 (ah (rows.map bD.id) x)=pp at*;clear hneg h;go_enter func147,ntmps147;go_wp2_with (at_lookup;refine wpList_lookup_own_ok_int _ rfl _ _ 72 rfl 9 3 .i64 jn underlying72 underlying3 (me _) M _ D rfl LJ _ _ rfl MD ?_;intro c hat hwc;rw[M7]);go_ret;exact⟨by rw[HP.o];rfl,rfl⟩
 ·obtain⟨j,r,hj,hr,hid,hjl⟩:=iW bD.id rows x hneg
  have MU:x∈rows.map bD.id:=List.mem_map.2 ⟨r,KN hr,hid⟩;rw[(ii x _).2 MU]at M7;obtain⟨j',hj',hjv⟩:=hpm.val x MU;have ejj:j'=j:=by have:=o6 _ x j' h.n hj';omega
  subst ejj;obtain⟨gR,cap,e,_,_,_⟩:=h.at hr;have e1:=(Value.slice.inj e).1;subst e1;have HP:=aa (show bx (.slice (some ⟨gR,0,none⟩) rows.length cL) 3 (ah (rows.map bD.id) x)=.pointer (some ⟨gR,j'*3,none⟩)from by rw[hj];unfold bx;rw[K8 (by omega)];rfl);generalize bx (.slice (some ⟨gR,0,none⟩) rows.length cL) 3 (ah (rows.map bD.id) x)=pp at*;clear hneg h hj hr hid hj' MU e;go_enter func147,ntmps147;go_wp2_with (at_lookup;refine wpList_lookup_own_ok_int _ rfl _ _ 72 rfl 9 3 .i64 jn underlying72 underlying3 (me _) M _ D rfl LJ _ _ rfl MD ?_;intro c hat hwc;rw[M7];rw[hjv]at hat;simp only[DataW.lit.injEq,Lit.int.injEq,true_and]at hat;subst hat);go_ret;exact⟨by rw[HP.o];rfl,rfl⟩
end
def gK(Lx:List aH)(ifs uns:List Ls)(us:List bB)(rows:List bD)(c id:Ls):Bool:=if aZ (Lx.map aH.name) ifs uns c<=1 then false else if ah (rows.map bD.id) id<0 then true else match rows[(ah (rows.map bD.id) id).toNat]? with
 |some r=>(match Lx[r.k]? with|some o=>!(o.name.toList==[81,117,101,114,121])&&om o us c|none=>false)
 |none=>false
section
variable {w0 w:World} {S:Nat} {vR vO vI vU vN:Value} {LR:List (aj×Value)} {LO:List lF} {LI:List (bC×Value)} {LU:List (bB×Value)} {names:List Ls} {T M gO B:Nat} {vL:Value} {rows:List bD}
theorem Ei(h:SV w S vR vO vI vU vN LR LO LI LU names)(hg:∃c,vO=.slice (some ⟨gO,0,none⟩) LO.length c)(hT:jO w T S M gO B vL rows)(hk:∀r∈rows,r.k<LO.length)(id c:Ls)(hid:id.size<=maxLen):
 Calls prog 186 #[.pointer (some ⟨T,0,none⟩),.string id,.string c] w fun e w'=>e=.returned (.bool (gK (LO.map Prod.fst) (LI.map iN) (LU.map uN) (LU.map Prod.fst) rows c id))/\Lt w w':=by
 have cT:=ae hT.b;have hlT:=ag hT.b;have HKP:=aa (s9 w S vR vO vI vU vN LR LO LI LU names c h);have HRW:=aa (fun W (hW:Lt w W)=>AZ (hT.below hW) id hid);have HQ:=aa (gK.eq_1 (LO.map Prod.fst) (LI.map iN) (LU.map uN) (LU.map Prod.fst) rows c id);rw[show(LO.map Prod.fst).map aH.name=LO.map oN from by rw[List.map_map];rfl]at HQ;have HH:=aa h;have HTT:=aa hT;have hrl:=hT.l;clear h hT;generalize gK (LO.map Prod.fst) (LI.map iN) (LU.map uN) (LU.map Prod.fst) rows c id=q at*;generalize aZ (LO.map oN) (LI.map iN) (LU.map uN) c=kn at*;by_cases h1:kn<=1
 ·rw[K9 h1]at HQ
  rcases(show kn=0\/kn=1 by omega)with e|e;all_goals(
   subst e;clear h1;go_enter func186,ntmps186;go_wp2_with fail;refine HKP.o.mono ?_;rintro _ w1 ⟨rfl,b1⟩;go_wp2_with fail;go_ret;exact⟨am HQ.o.symm,b1⟩)
 rw[K8 h1]at HQ;have k0:((kn:Int)==0)=false:=by rw[beq_eq_false_iff_ne];omega
 have k1:((kn:Int)==1)=false:=by rw[beq_eq_false_iff_ne];omega
 clear h1;by_cases hneg:ah (rows.map bD.id) id<0
 ·rw[K9 hneg]at HQ
  have HP:=aa (show bx vL 3 (ah (rows.map bD.id) id)=.pointer none from by unfold bx;rw[K9 hneg]);rw[HP.o]at HRW;clear HP hneg;go_enter func186,ntmps186;go_wp2_with fail;refine HKP.o.mono ?_;rintro _ w1 ⟨rfl,b1⟩;have B1:=aa b1;clear b1;go_wp2_with fail;refine(HRW.o _ B1.o).mono ?_;rintro _ w' ⟨rfl,hw'⟩;have hw':=hw'.symm;subst hw';go_wp2_with fail;go_quiet (fail);go_wp2_with fail;go_ret;exact⟨am HQ.o.symm,below_drewN B1.o _⟩
 ·rw[K8 hneg]at HQ
  obtain⟨j,r,hj,hr,_,hjl⟩:=iW bD.id rows id hneg;obtain⟨gR,cap,hvL,r0,_,_⟩:=HTT.o.at hr;have hrk:=hk r (KN hr);obtain⟨x,hx⟩:∃x,LO[r.k]?=some x:=⟨_,KM hrk⟩;have HP:=aa (show bx vL 3 (ah (rows.map bD.id) id)=.pointer (some ⟨gR,j*3,none⟩)from by rw[hj,hvL];unfold bx;rw[K8 (by omega)];rfl);rw[HP.o]at HRW;have HQ2:=aa (show q=(!(x.1.name.toList==[81,117,101,114,121])&&om x.1 (LU.map Prod.fst) c)from by rw[HQ.o,hj,Lk,hr];simp only[La,hx,Option.map_some]);have HOF:=aa (fun W (hW:Lt w W)=>Ek (HH.o.below hW) r.k x hx c gO hg);obtain⟨g,LM,hv,hc⟩:=HH.o.o.cell (fun _=>rfl) r.k x hx;obtain⟨c0,hv0⟩:=hg;rw[hv0]at hv;have e2:=(Addr.mk.inj (KY (Value.slice.inj hv).1)).1;subst e2;have o0:w.cell? ⟨gO,r.k*4,none⟩=some (.string x.1.name):=by simpa using hc 0 _ rfl
  generalize om x.1 (LU.map Prod.fst) c=qo at*;generalize x.1.name=nm1 at*;clear HP HQ hc hv hv0 hx hr hj hvL hneg hk;cases bq:(nm1.toList==[81,117,101,114,121])
  rotate_left
  ·rw[bq]at HQ2
   go_enter func186,ntmps186;go_wp2_with fail;refine HKP.o.mono ?_;rintro _ w1 ⟨rfl,b1⟩;have B1:=aa b1;have r0:=ao b1 r0;have o0:=ao b1 o0;clear b1;go_wp2_with fail;refine(HRW.o _ B1.o).mono ?_;rintro _ w' ⟨rfl,hw'⟩;have hw':=hw'.symm;subst hw';go_wp2_with fail;go_quiet (fail);go_wp2_with fail;go_ret;exact⟨am HQ2.o.symm,below_drewN B1.o _⟩
  ·rw[bq]at HQ2
   go_enter func186,ntmps186;go_wp2_with fail;refine HKP.o.mono ?_;rintro _ w1 ⟨rfl,b1⟩;have B1:=aa b1;have HS:=aa (fun V (hV:Lt w1 V)=>And.intro hV (And.intro (ao hV (ao b1 r0)) (And.intro (ao hV (ao b1 o0)) (ao hV (ao b1 (show w.cell? ⟨T,1,none⟩=some (.pointer (some ⟨S,0,none⟩))from cT 1))))));clear b1 cT r0 o0;go_wp2_with fail;refine(HRW.o _ B1.o).mono ?_;rintro _ w' ⟨rfl,hw'⟩;have hw':=hw'.symm;subst hw';go_wp2_with fail;go_region_held3 (fun V=>Lt w1 V/\V.cell? ⟨gR,j*3,none⟩=some (.pointer (some ⟨gO,r.k*4,none⟩))/\V.cell? ⟨gO,r.k*4,none⟩=some (.string nm1)/\V.cell? ⟨T,1,none⟩=some (.pointer (some ⟨S,0,none⟩)))
    (first|exact HS.o _ (KL _ _).drew|exact HS.o _ (bT bh b2))
    (first|(go_at_call 208;obtain⟨bh, -⟩:= ‹Lt w1 _/\_›;refine(HOF.o _ (bT B1.o bh)).mono ?_;rintro _ w2 ⟨rfl,b2⟩))
   all_goals(obtain⟨bh, -⟩:= ‹Lt w1 _/\_›;(try go_wp2_with fail);go_ret;exact⟨am (by rw[HQ2.o];rfl),bT B1.o bh⟩)
end
end Go.Proofs.YtgbloieahmkcjaaGreat
