import Derived.Test.YtadneapobijejaaGreatDoorC19
import Derived.Test.YtadneapobijejaaGreatDoorC12
import Derived.BigQuiet
namespace Go.Proofs.YtadneapobijejaaGreatDoor
set_option maxHeartbeats 20000000
set_option maxRecDepth 100000
open Go.RowKit Tryz
theorem aG(f:Nat):SF f:=by
 induction f using Nat.strongRecOn with
 |ind f ih=>
  intro d D s w b G hD h hf;obtain⟨f0,rfl⟩:∃f0,f=f0+1:=⟨f-1,by omega⟩;exact aH f0 d D s w b G h (fun W hW e=>iZ f0 d D hD (fun f1 h1=>ih f1 (by omega)) (tl s) W b G hW.ps (by have:=EG s 12 (by decide) e;omega))
theorem pL(x:vD)(w:World)(hs:x.size<=maxLen):
 Calls prog 111 #[.string x] w fun e w'=>∃v:FV,e=.returned (.tuple #[Ck v,.bool (JA x)])/\vE w w'/\(JA x=true->AX w' (NB w w') 1603 v (pv (Dk x))/\v.ln<=v.lc):=by
 have HR:=Aa (fun W=>Pg x W hs);have HT:=Aa (fun W b G (hW:PS W b G (Af x))=>aG 1603 0 10 (Af x) W b G rfl hW (by have:=hW.len;omega));have HD:=Aa (fun W b G (hW:PS W b G (Bg 1603 0 (Af x)).2)=>MQ W b G _ hW);rw[<-bB]at HD;have HO:=Aa (show JA x=MS (Bg 1603 0 (Af x)).2/\Dk x=(Bg 1603 0 (Af x)).1 from⟨rfl,rfl⟩);have HN:=Aa (show MS (Bg 1603 0 (Af x)).2=true->(Bg 1603 0 (Af x)).2≠none from fun h e=>by rw[e]at h;cases h);unfold JN at HT;generalize JA x=ok at*;generalize Dk x=vo at*;generalize Bg 1603 0 (Af x)=q at*;obtain⟨q1,q2⟩:=q;simp only[]at HT HD HO HN;obtain⟨e1,e2⟩:=HO.o;subst e1 e2;clear HO;generalize Af x=s0 at*;generalize MS q2=ok at*;go_enter func111,ntmps111;go_wp2_with fail;refine(HR.o _).mono ?_;rintro _ w1 ⟨b,G,rfl,hb,hps,b1⟩;have B1:=Aa (bT (bA (tM w.heap.size w) _) b1);have HZ:=Aa ((b1.block _ (by simp)).trans (tS w _));have HPS:=Aa hps;have hl1:=Ab HZ.o;have hbw:w.heap.size<b:=by have:=hb;simp at this;omega
 clear hb hps b1 HR;go_wp2_with fail;refine(HT.o _ _ _ HPS.o).mono ?_;rintro _ w2 ⟨v,rfl,k2,hv⟩;unfold Ck;have hZ2:=k2.kp.at HZ.o (by omega);have HZ2:=Aa hZ2;have hl2:=Ab hZ2;have K2:=Aa k2;have HV:=Aa hv;have B2:=Aa (bK B1.o k2.kp (by omega));clear hZ2 k2 hv HT;go_wp2_with fail;have hN:=tS w2 (.cells #[.int .i64 v.sh,.int .i64 v.n,.string v.s,.slice v.la v.ln v.lc] 238);have hR3:=(AK w2 (.cells #[.int .i64 v.sh,.int .i64 v.n,.string v.s,.slice v.la v.ln v.lc] 238) _ hl2).trans HZ2.o;have K3:=Aa (K2.o.al (.cells #[.int .i64 v.sh,.int .i64 v.n,.string v.s,.slice v.la v.ln v.lc] 238));have B3:=Aa (bA B2.o (.cells #[.int .i64 v.sh,.int .i64 v.n,.string v.s,.slice v.la v.ln v.lc] 238));have HV3:=Aa (show ok=true->AX (w2.alloc (.cells #[.int .i64 v.sh,.int .i64 v.n,.string v.s,.slice v.la v.ln v.lc] 238)) (fun g=>w1.heap.size<=g/\g<w2.heap.size) 1603 v (pv vo)/\v.ln<=v.lc from fun h=>⟨(HV.o (HN.o h)).1.frame (fun g hg o=>World.cell?_of_block (a:=⟨g,o,none⟩) (AK _ _ _ hg.2)) (fun g hg=>hg),(HV.o (HN.o h)).2⟩);have hs12:=K2.o.kp.size;have hs3:w2.heap.size<(w2.alloc (.cells #[.int .i64 v.sh,.int .i64 v.n,.string v.s,.slice v.la v.ln v.lc] 238)).heap.size:=by simp
 have hs01:=B1.o.size;generalize w2.alloc (.cells #[.int .i64 v.sh,.int .i64 v.n,.string v.s,.slice v.la v.ln v.lc] 238)=w3 at*;have cN:=Ac hN;have hlN:=Ab hN;have cR:=Ac hR3;have fR:=Am hR3;have hlR:=Ab hR3;have hb3:=K3.o.ps.lt;clear hN hR3 HV HZ HZ2;go_region_with (go_at_call 35;refine(HD.o _ b G ?_).mono ?_;(first|exact K3.o.dr.ps|exact K3.o.ps);rintro _ w' ⟨rfl,hw'⟩;have hw':=hw'.symm;subst hw');all_goals(try go_wp2_with fail)
 all_goals(
  refine bodyPost_ret (v:=.tuple #[Ck v,.bool ok]) (by simp[results,results111,go_sem,Ck, *]) rfl ⟨v,rfl,?_,fun h=>?_⟩
  ·repeat' with_reducible first|exact B3.o|refine bS ?_ _ (tL _) _|refine Below.drew ?_
  ·refine⟨?_,(HV3.o h).2⟩
   refine(HV3.o h).1.frame (fun g hg o=>?_) (fun g hg=>?_)
   ·exact World.cell?_of_block (a:=⟨g,o,none⟩) (Sd _ _ g (by have:=hg.1;omega) _ _ _ _)
   ·exact⟨by have:=hg.1;omega,by have:=hg.2;simp[World.setCell];omega⟩)
open Go.Maps Tryz
open Go.ChangeMaps Tryz
abbrev AV:=Ap×Value×Value×Value
def Iy(uns:List Au)(n m:vD):Bool:=if Ae (uns.map Au.name) n<0 then false else match uns[(Ae (uns.map Au.name) n).toNat]? with
 |some u=>AS m u.members
 |none=>false
def AU(o:Ap)(uns:List Au)(n:vD):Bool:=(o.name.toList==n.toList)||(AS n o.impl||Iy uns n o.name)
section
variable {w:World} {S:Nat} {vR vO vI vU vN:Value} {LR:List (At×Value)} {LO:List AV} {LI:List (As×Value)} {LU:List (Au×Value)} {names:List vD}
theorem RE(h:SV w S vR vO vI vU vN LR LO LI LU names)(k:Nat)(x:AV)(hx:LO[k]?=some x)(n:vD)(gO:Nat)(hg:∃c,vO=.slice (some ⟨gO,0,none⟩) LO.length c):
 Calls prog 181 #[.pointer (some ⟨S,0,none⟩),.pointer (some ⟨gO,k*4,none⟩),.string n] w fun e w'=>e=.returned (.bool (AU x.1 (LU.map Prod.fst) n))/\vE w w':=by
 obtain⟨g,cap,hv,hc⟩:=h.o.cell (fun _=>rfl) k x hx;obtain⟨c0,hv0⟩:=hg;rw[hv0]at hv;have e:=(Value.slice.inj hv).1;have e2:=(Addr.mk.inj (tY e)).1;subst e2;have o0:w.cell? ⟨gO,k*4,none⟩=some (.string x.1.name):=by simpa using hc 0 _ rfl
 have o2:w.cell? ⟨gO,k*4+2,none⟩=some x.2.2.1:=hc 2 _ rfl;obtain⟨_,_,hO3,hO4,_⟩:=h.o.ok x (tO hx);have HIM:=Aa (fun W (hW:vE w W)=>Nw n x.2.2.1 x.1.impl W (DK.of_own (AT hO3 hW)) (by omega));have HSU:=Aa (Sa w S vR vO vI vU vN LR LO LI LU names n h);have HUN:=Aa (h.u);have hro:=h.rowUnion;obtain⟨aI,cI,hvI⟩:=An hO3;rw[hvI]at o2 HIM;have hlO:=tR w _ o0;have HQ:=Aa (show AU x.1 (LU.map Prod.fst) n=((x.1.name.toList==n.toList)||(AS n x.1.impl||Iy (LU.map Prod.fst) n x.1.name))from rfl);clear hc hv hO3 hO4 hx h;generalize AU x.1 (LU.map Prod.fst) n=q at*;have HUX:=Aa (show Iy (LU.map Prod.fst) n x.1.name=if Ae (LU.map uN) n<0 then false else match (LU.map Prod.fst)[(Ae (LU.map uN) n).toNat]? with|some u=>AS x.1.name u.members|none=>false from by
  unfold Iy;rw[List.map_map];rfl)
 generalize Iy (LU.map Prod.fst) n x.1.name=qu at*;cases b1:(x.1.name.toList==n.toList)
 rotate_left
 ·rw[b1]at HQ
  go_enter func181,ntmps181;go_wp2_with fail;go_ret;exact⟨Ak HQ.o.symm,tM _ _⟩
 rw[b1]at HQ;cases b2:AS n x.1.impl
 rotate_left
 ·rw[b2]at HQ HIM
  go_enter func181,ntmps181;go_wp2_with fail;refine(HIM.o _ (tM _ _)).mono ?_;rintro _ w' ⟨rfl,hw'⟩;have hw':=hw'.symm;subst hw';go_wp2_with fail;go_ret;exact⟨Ak HQ.o.symm,tM _ _⟩
 rw[b2]at HQ HIM;have HQ2:=Aa (show q=qu from HQ.o);clear HQ b2;by_cases hneg:Ae (LU.map uN) n<0
 ·rw[uC hneg]at HUX
  rw[(GO hro n).1 hneg]at HSU;go_enter func181,ntmps181;go_wp2_with fail;refine(HIM.o _ (tM _ _)).mono ?_;rintro _ w' ⟨rfl,hw'⟩;have hw':=hw'.symm;subst hw';go_wp2_with fail;refine HSU.o.mono ?_;rintro _ w1 ⟨rfl,hb1⟩;have HB1:=Aa hb1;clear hb1;go_wp2_with fail;go_quiet (fail);go_wp2_with fail;go_ret;exact⟨Ak (by rw[HQ2.o,HUX.o]),below_drewN HB1.o _⟩
 ·rw[uB hneg]at HUX
  obtain⟨j,u,hj,hu,_,hjl⟩:=Cl uN LU n hneg;obtain⟨gU,cU,hvU,hcU⟩:=HUN.o.cell (fun _=>rfl) j u hu;have u1:w.cell? ⟨gU,j*2+1,none⟩=some u.2:=hcU 1 _ rfl;obtain⟨hU1,hU2⟩:=HUN.o.ok u (tO hu);obtain⟨aM,cM,hvM⟩:=An hU1;have HME:=Aa (fun W (hW:vE w W)=>Nw x.1.name u.2 u.1.members W (DK.of_own (AT hU1 hW)) (by omega));rw[hvM]at u1 HME;rw[hj,uO,uD,hu]at HUX;have HP:=Aa (show AC vU 2 (Ae (LU.map uN) n)=.pointer (some ⟨gU,j*2,none⟩)from by rw[hj,hvU];unfold AC;rw[uB (by omega)];rfl);rw[HP.o]at HSU;have HQ3:=Aa (show q=AS x.1.name u.1.members from by rw[HQ2.o,HUX.o];rfl);generalize AS x.1.name u.1.members=qm at*;generalize x.1.name=nm1 at*;clear HUX HQ2 HP hj hu hvU hcU hU1 hU2 HUN hneg hro hvM hvI;go_enter func181,ntmps181;go_wp2_with fail;refine(HIM.o _ (tM _ _)).mono ?_;rintro _ w' ⟨rfl,hw'⟩;have hw':=hw'.symm;subst hw';go_wp2_with fail;refine HSU.o.mono ?_;rintro _ w1 ⟨rfl,hb1⟩;have o0:=Ah hb1 o0;have u1:=Ah hb1 u1;have HB1:=Aa hb1;clear hb1 o2;go_wp2_with fail;go_quiet ((go_at_call 216;refine Calls.quiet_of_same (HME.o _ (below_drewN HB1.o _))));go_wp2_with fail;go_ret;exact⟨Ak HQ3.o.symm,below_drewN HB1.o _⟩
end
structure AE where
 k:Nat
 id:vD
 v:Value
 cs:List BR
def qL(gO:Nat)(r:AE):List Value:=[.pointer (some ⟨gO,r.k*4,none⟩),.string r.id,r.v]
structure EA(w:World)(T S M gO B:Nat)(vL:Value)(rows:List AE):Prop where
 b:w.heap[T]?=some (.cells #[vL,.pointer (some ⟨S,0,none⟩),.map (some M)] 75 (0,0))
 r:w.ownsRow B 134 3 vL rows.length (rows.flatMap (qL gO))
 m:∃D,BP w M rows.length D/\PM (rows.map AE.id) D
 n:(rows.map AE.id).Nodup
 l:rows.length<=201
theorem EA.below{w w':World}{T S M gO B:Nat}{vL:Value}{rows:List AE}(h:EA w T S M gO B vL rows)(hb:vE w w'):EA w' T S M gO B vL rows:=by
 obtain⟨D,h1,h2⟩:=h.m;exact⟨(hb.block _ (Ab h.b)).trans h.b,AT h.r hb,⟨D,h1.below hb,h2⟩,h.n,h.l⟩
theorem EA.at{w:World}{T S M gO B:Nat}{vL:Value}{rows:List AE}(h:EA w T S M gO B vL rows){j:Nat}{r:AE}(hj:rows[j]?=some r):∃gR cap,vL=.slice (some ⟨gR,0,none⟩) rows.length cap/\w.cell? ⟨gR,j*3,none⟩=some (.pointer (some ⟨gO,r.k*4,none⟩))/\w.cell? ⟨gR,j*3+1,none⟩=some (.string r.id)/\w.cell? ⟨gR,j*3+2,none⟩=some r.v:=by
 obtain⟨g,cap,hv,hc⟩:=BS.cell (ok:=fun _ _=>True) ⟨h.r,fun _ _=>trivial⟩ (fun _=>rfl) j r hj;exact⟨g,cap,hv,by simpa using hc 0 _ rfl,hc 1 _ rfl,hc 2 _ rfl⟩
theorem Nd(x:vD)(h:x.size<=maxLen):keyOf prog 9 (.string x)=some (kl x):=Go.WideMaps.keyOf_string_mk underlying9 h
section
variable {w:World} {T S M gO B:Nat} {vL:Value} {rows:List AE}
theorem RZ(h:EA w T S M gO B vL rows)(x:vD)(hx:x.size<=maxLen):
 Calls prog 48 #[.pointer (some ⟨T,0,none⟩),.string x] w fun e w'=>e=.returned (AC vL 3 (Ae (rows.map AE.id) x))/\w'=w:=by
 obtain⟨D,hown,hpm⟩:=h.m;obtain⟨aL,cL,hvL⟩:=An h.r;subst hvL;have hkey:=Nd x hx;have hhas:=hpm.hasP x;have c:=Ac h.b;have hrl:=h.l;by_cases hneg:Ae (rows.map AE.id) x<0
 ·rw[show AS x (rows.map AE.id)=false from Nl _ _ (fun e=>by have:=LC _ _ e;omega)]at hhas
  have HP:=Aa (show AC (.slice aL rows.length cL) 3 (Ae (rows.map AE.id) x)=.pointer none from by unfold AC;rw[uC hneg]);generalize AC (.slice aL rows.length cL) 3 (Ae (rows.map AE.id) x)=pp at*;clear hneg h;go_enter func48,ntmps48;go_wp2_with (at_lookup;refine wpList_lookup_own_ok_int _ rfl _ _ 73 rfl 9 3 .i64 Ca underlying73 underlying3 (Gy _) M _ D rfl hown _ _ rfl hkey ?_;intro c hat hwc;rw[hhas]);go_ret;exact⟨by rw[HP.o];rfl,rfl⟩
 ·obtain⟨j,r,hj,hr,hid,hjl⟩:=Cl AE.id rows x hneg
  have hmem:x∈rows.map AE.id:=List.mem_map.2 ⟨r,tO hr,hid⟩;rw[(Fv x _).2 hmem]at hhas;obtain⟨j',hj',hjv⟩:=hpm.val x hmem;have ejj:j'=j:=by have:=LA _ x j' h.n hj';omega
  subst ejj;obtain⟨gR,cap,e,_,_,_⟩:=h.at hr;have e1:=(Value.slice.inj e).1;subst e1;have HP:=Aa (show AC (.slice (some ⟨gR,0,none⟩) rows.length cL) 3 (Ae (rows.map AE.id) x)=.pointer (some ⟨gR,j'*3,none⟩)from by rw[hj];unfold AC;rw[uB (by omega)];rfl);generalize AC (.slice (some ⟨gR,0,none⟩) rows.length cL) 3 (Ae (rows.map AE.id) x)=pp at*;clear hneg h hj hr hid hj' hmem e;go_enter func48,ntmps48;go_wp2_with (at_lookup;refine wpList_lookup_own_ok_int _ rfl _ _ 73 rfl 9 3 .i64 Ca underlying73 underlying3 (Gy _) M _ D rfl hown _ _ rfl hkey ?_;intro c hat hwc;rw[hhas];rw[hjv]at hat;simp only[DataW.lit.injEq,Lit.int.injEq,true_and]at hat;subst hat);go_ret;exact⟨by rw[HP.o];rfl,rfl⟩
end
end Go.Proofs.YtadneapobijejaaGreatDoor
