import Derived.Test.YtogdodlibkckkaaGreatDoorZ19
import Derived.Test.YtogdodlibkckkaaGreatDoorZ12
import Derived.BigQuiet
namespace Go.Proofs.YtogdodlibkckkaaGreatDoor
set_option maxHeartbeats 20000000
set_option maxRecDepth 100000
open Go.RowKit Tryz
theorem dQ(f:Nat):Tv f:=by
 induction f using Nat.strongRecOn with
 |ind f i=>
  intro d D s w b G g c k;obtain⟨a,rfl⟩:∃a,f=a+1:=⟨f-1,by omega⟩;exact dR a d D s w b G c (fun W h e=>mD a d D g (fun f1 j=>i f1 (by omega)) (tl s) W b G h.ps (by have:=ET s 12 (by decide) e;omega))
theorem sD(x:yF)(w:World)(hs:x.size<=maxLen):
 Calls prog 145 #[.string x] w fun e w'=>∃v:FV,e=.returned (.tuple #[Ct v,.bool (JL x)])/\yG w w'/\(JL x=true->Ba w' (NB w w') 1603 v (pv (CZ x))/\v.ln<=v.lc):=by
 have A:=Aa (fun W=>Qd x W hs);have f:=Aa (fun W b G (i:PS W b G (Ad x))=>dQ 1603 0 10 (Ad x) W b G rfl i (by have:=i.len;omega));have j:=Aa (fun W b G (i:PS W b G (Bb 1603 0 (Ad x)).2)=>Nq W b G _ i);rw[<-dZ]at j;have l:=Aa (show JL x=Nr (Bb 1603 0 (Ad x)).2/\CZ x=(Bb 1603 0 (Ad x)).1 from⟨rfl,rfl⟩);have k:=Aa (show Nr (Bb 1603 0 (Ad x)).2=true->(Bb 1603 0 (Ad x)).2≠none from fun c e=>by rw[e]at c;cases c);unfold Ka at f;generalize JL x=ok at*;generalize CZ x=vo at*;generalize Bb 1603 0 (Ad x)=q at*;obtain⟨aa,N⟩:=q;simp only[]at f j l k;obtain⟨K,L⟩:=l.o;subst K L;clear l;generalize Ad x=ab at*;generalize Nr N=ok at*;go_enter func145,ntmps145;go_wp2_with fail;refine(A.o _).mono ?_;rintro _ w1 ⟨b,G,rfl,hb,E,t⟩;have B1:=Aa (bT (bA (wR w.heap.size w) _) t);have p:=Aa ((t.block _ (by simp)).trans (wX w _));have J:=Aa E;have T:=Ab p.o;have S:w.heap.size<b:=by have:=hb;simp at this;omega
 clear hb E t A;go_wp2_with fail;refine(f.o _ _ _ J.o).mono ?_;rintro _ w2 ⟨v,rfl,k2,F⟩;unfold Ct;have y:=k2.kp.at p.o (by omega);have C:=Aa y;have M:=Ab y;have D:=Aa k2;have m:=Aa F;have H:=Aa (bK B1.o k2.kp (by omega));clear y k2 F f;go_wp2_with fail;have u:=wX w2 (.cells #[.int .i64 v.sh,.int .i64 v.n,.string v.s,.slice v.la v.ln v.lc] 157);have h:=(AJ w2 (.cells #[.int .i64 v.sh,.int .i64 v.n,.string v.s,.slice v.la v.ln v.lc] 157) _ M).trans C.o;have r:=Aa (D.o.al (.cells #[.int .i64 v.sh,.int .i64 v.n,.string v.s,.slice v.la v.ln v.lc] 157));have I:=Aa (bA H.o (.cells #[.int .i64 v.sh,.int .i64 v.n,.string v.s,.slice v.la v.ln v.lc] 157));have B:=Aa (show ok=true->Ba (w2.alloc (.cells #[.int .i64 v.sh,.int .i64 v.n,.string v.s,.slice v.la v.ln v.lc] 157)) (fun g=>w1.heap.size<=g/\g<w2.heap.size) 1603 v (pv vo)/\v.ln<=v.lc from fun c=>⟨(m.o (k.o c)).1.frame (fun g d o=>World.cell?_of_block (a:=⟨g,o,none⟩) (AJ _ _ _ d.2)) (fun g d=>d),(m.o (k.o c)).2⟩);have Y:=D.o.kp.size;have Z:w2.heap.size<(w2.alloc (.cells #[.int .i64 v.sh,.int .i64 v.n,.string v.s,.slice v.la v.ln v.lc] 157)).heap.size:=by simp
 have X:=B1.o.size;generalize w2.alloc (.cells #[.int .i64 v.sh,.int .i64 v.n,.string v.s,.slice v.la v.ln v.lc] 157)=w3 at*;have O:=Ac u;have U:=Ab u;have P:=Ac h;have Q:=Ak h;have V:=Ab h;have R:=r.o.ps.lt;clear u h m p C;go_region_with (go_at_call 64;refine(j.o _ b G ?_).mono ?_;(first|exact r.o.dr.ps|exact r.o.ps);rintro _ w' ⟨rfl,z⟩;have z:=z.symm;subst z);all_goals(try go_wp2_with fail)
 all_goals(
  refine bodyPost_ret (v:=.tuple #[Ct v,.bool ok]) (by simp[results,results145,go_sem,Ct, *]) rfl ⟨v,rfl,?_,fun c=>?_⟩
  ·repeat' with_reducible first|exact I.o|refine bS ?_ _ (wQ _) _|refine Below.drew ?_
  ·refine⟨?_,(B.o c).2⟩
   refine(B.o c).1.frame (fun g d o=>?_) (fun g d=>?_)
   ·exact World.cell?_of_block (a:=⟨g,o,none⟩) (SQ _ _ g (by have:=d.1;omega) _ _ _ _)
   ·exact⟨by have:=d.1;omega,by have:=d.2;simp[World.setCell];omega⟩)
open Go.Maps Tryz
open Go.ChangeMaps Tryz
abbrev AX:=Aq×Value×Value×Value
def IK(uns:List Aw)(n m:yF):Bool:=if Af (uns.map Aw.name) n<0 then false else match uns[(Af (uns.map Aw.name) n).toNat]? with
 |some u=>AS m u.members
 |none=>false
def AW(o:Aq)(uns:List Aw)(n:yF):Bool:=(o.name.toList==n.toList)||(AS n o.impl||IK uns n o.name)
section
variable {w:World} {S:Nat} {vR vO vI vU vN:Value} {LR:List (Au×Value)} {LO:List AX} {LI:List (At×Value)} {LU:List (Aw×Value)} {names:List yF}
theorem Sq(i:SV w S vR vO vI vU vN LR LO LI LU names)(k:Nat)(x:AX)(F:LO[k]?=some x)(n:yF)(r:Nat)(X:∃c,vO=.slice (some ⟨r,0,none⟩) LO.length c):
 Calls prog 217 #[.pointer (some ⟨S,0,none⟩),.pointer (some ⟨r,k*4,none⟩),.string n] w fun e w'=>e=.returned (.bool (AW x.1 (LU.map Prod.fst) n))/\yG w w':=by
 obtain⟨g,cap,E,C⟩:=i.o.cell (fun _=>rfl) k x F;obtain⟨c0,Y⟩:=X;rw[Y]at E;have e:=(Value.slice.inj E).1;have T:=(Addr.mk.inj (xD e)).1;subst T;have G:w.cell? ⟨r,k*4,none⟩=some (.string x.1.name):=by simpa using C 0 _ rfl
 have Q:w.cell? ⟨r,k*4+2,none⟩=some x.2.2.1:=C 2 _ rfl;obtain⟨_,_,z,U,_⟩:=i.o.ok x (wT F);have f:=Aa (fun W (B:yG w W)=>NW n x.2.2.1 x.1.impl W (DU.of_own (AT z B)) (by omega));have p:=Aa (SO w S vR vO vI vU vN LR LO LI LU names n i);have v:=Aa (i.u);have M:=i.rowUnion;obtain⟨aa,ad,N⟩:=An z;rw[N]at Q f;have ah:=wW w _ G;have b:=Aa (show AW x.1 (LU.map Prod.fst) n=((x.1.name.toList==n.toList)||(AS n x.1.impl||IK (LU.map Prod.fst) n x.1.name))from rfl);clear C E z U F i;generalize AW x.1 (LU.map Prod.fst) n=q at*;have h:=Aa (show IK (LU.map Prod.fst) n x.1.name=if Af (LU.map uN) n<0 then false else match (LU.map Prod.fst)[(Af (LU.map uN) n).toNat]? with|some u=>AS x.1.name u.members|none=>false from by
  unfold IK;rw[List.map_map];rfl)
 generalize IK (LU.map Prod.fst) n x.1.name=Z at*;cases J:(x.1.name.toList==n.toList)
 rotate_left
 ·rw[J]at b
  go_enter func217,ntmps217;go_wp2;go_ret;exact⟨Al b.o.symm,wR _ _⟩
 rw[J]at b;cases y:AS n x.1.impl
 rotate_left
 ·rw[y]at b f
  go_enter func217,ntmps217;go_wp2_with fail;refine(f.o _ (wR _ _)).mono ?_;rintro _ w' ⟨rfl,a⟩;have a:=a.symm;subst a;go_wp2;go_ret;exact⟨Al b.o.symm,wR _ _⟩
 rw[y]at b f;have t:=Aa (show q=Z from b.o);clear b y;by_cases l:Af (LU.map uN) n<0
 ·rw[xH l]at h
  rw[(Hc M n).1 l]at p;go_enter func217,ntmps217;go_wp2_with fail;refine(f.o _ (wR _ _)).mono ?_;rintro _ w' ⟨rfl,a⟩;have a:=a.symm;subst a;go_wp2_with fail;refine p.o.mono ?_;rintro _ w1 ⟨rfl,d⟩;have m:=Aa d;clear d;go_wp2;go_quiet (fail);go_wp2;go_ret;exact⟨Al (by rw[t.o,h.o]),below_drewN m.o _⟩
 ·rw[xG l]at h
  obtain⟨j,u,D,s,_,ag⟩:=Cu uN LU n l;obtain⟨K,af,P,L⟩:=v.o.cell (fun _=>rfl) j u s;have u1:w.cell? ⟨K,j*2+1,none⟩=some u.2:=L 1 _ rfl;obtain⟨A,V⟩:=v.o.ok u (wT s);obtain⟨ab,ae,O⟩:=An A;have H:=Aa (fun W (B:yG w W)=>NW x.1.name u.2 u.1.members W (DU.of_own (AT A B)) (by omega));rw[O]at u1 H;rw[D,xS,xI,s]at h;have I:=Aa (show AC vU 2 (Af (LU.map uN) n)=.pointer (some ⟨K,j*2,none⟩)from by rw[D,P];unfold AC;rw[xG (by omega)];rfl);rw[I.o]at p;have R:=Aa (show q=AS x.1.name u.1.members from by rw[t.o,h.o];rfl);generalize AS x.1.name u.1.members=aj at*;generalize x.1.name=ai at*;clear h t I D s P L A V v l M O N;go_enter func217,ntmps217;go_wp2_with fail;refine(f.o _ (wR _ _)).mono ?_;rintro _ w' ⟨rfl,a⟩;have a:=a.symm;subst a;go_wp2_with fail;refine p.o.mono ?_;rintro _ w1 ⟨rfl,d⟩;have G:=Ah d G;have u1:=Ah d u1;have m:=Aa d;clear d Q;go_wp2;go_quiet ((go_at_call 148;refine Calls.quiet_of_same (H.o _ (below_drewN m.o _))));go_wp2;go_ret;exact⟨Al R.o.symm,below_drewN m.o _⟩
end
structure AE where
 k:Nat
 id:yF
 v:Value
 cs:List BU
def qL(gO:Nat)(r:AE):List Value:=[.pointer (some ⟨gO,r.k*4,none⟩),.string r.id,r.v]
structure EL(w:World)(T S M gO B:Nat)(vL:Value)(rows:List AE):Prop where
 b:w.heap[T]?=some (.cells #[vL,.pointer (some ⟨S,0,none⟩),.map (some M)] 67 (0,0))
 r:w.ownsRow B 97 3 vL rows.length (rows.flatMap (qL gO))
 m:∃D,BS w M rows.length D/\PM (rows.map AE.id) D
 n:(rows.map AE.id).Nodup
 l:rows.length<=201
theorem EL.below{w w':World}{T S M gO B:Nat}{vL:Value}{rows:List AE}(a:EL w T S M gO B vL rows)(hb:yG w w'):EL w' T S M gO B vL rows:=by
 obtain⟨D,c,d⟩:=a.m;exact⟨(hb.block _ (Ab a.b)).trans a.b,AT a.r hb,⟨D,c.below hb,d⟩,a.n,a.l⟩
theorem EL.at{w:World}{T S M gO B:Nat}{vL:Value}{rows:List AE}(c:EL w T S M gO B vL rows){j:Nat}{r:AE}(d:rows[j]?=some r):∃a cap,vL=.slice (some ⟨a,0,none⟩) rows.length cap/\w.cell? ⟨a,j*3,none⟩=some (.pointer (some ⟨gO,r.k*4,none⟩))/\w.cell? ⟨a,j*3+1,none⟩=some (.string r.id)/\w.cell? ⟨a,j*3+2,none⟩=some r.v:=by
 obtain⟨g,cap,e,b⟩:=BV.cell (ok:=fun _ _=>True) ⟨c.r,fun _ _=>trivial⟩ (fun _=>rfl) j r d;exact⟨g,cap,e,by simpa using b 0 _ rfl,b 1 _ rfl,b 2 _ rfl⟩
theorem NC(x:yF)(a:x.size<=maxLen):keyOf prog 9 (.string x)=some (kl x):=Go.WideMaps.keyOf_string_mk underlying9 a
section
variable {w:World} {T S M gO B:Nat} {vL:Value} {rows:List AE}
theorem SN(a:EL w T S M gO B vL rows)(x:yF)(G:x.size<=maxLen):
 Calls prog 76 #[.pointer (some ⟨T,0,none⟩),.string x] w fun e w'=>e=.returned (AC vL 3 (Af (rows.map AE.id) x))/\w'=w:=by
 obtain⟨D,v,y⟩:=a.m;obtain⟨aL,cL,E⟩:=An a.r;subst E;have u:=NC x G;have f:=y.hasP x;have c:=Ac a.b;have I:=a.l;by_cases g:Af (rows.map AE.id) x<0
 ·rw[show AS x (rows.map AE.id)=false from NM _ _ (fun e=>by have:=Mc _ _ e;omega)]at f
  have h:=Aa (show AC (.slice aL rows.length cL) 3 (Af (rows.map AE.id) x)=.pointer none from by unfold AC;rw[xH g]);generalize AC (.slice aL rows.length cL) 3 (Af (rows.map AE.id) x)=pp at*;clear g a;go_enter func76,ntmps76;go_wp2_with (at_lookup;refine wpList_lookup_own_ok_int _ rfl _ _ 65 rfl 9 3 .i64 Ci underlying65 underlying3 (GL _) M _ D rfl v _ _ rfl u ?_;intro c d F;rw[f]);go_ret;exact⟨by rw[h.o];rfl,rfl⟩
 ·obtain⟨j,r,s,p,hid,H⟩:=Cu AE.id rows x g
  have k:x∈rows.map AE.id:=List.mem_map.2 ⟨r,wT p,hid⟩;rw[(FD x _).2 k]at f;obtain⟨q,t,C⟩:=y.val x k;have A:q=j:=by have:=Ma _ x q a.n t;omega
  subst A;obtain⟨i,cap,e,_,_,_⟩:=a.at p;have z:=(Value.slice.inj e).1;subst z;have h:=Aa (show AC (.slice (some ⟨i,0,none⟩) rows.length cL) 3 (Af (rows.map AE.id) x)=.pointer (some ⟨i,q*3,none⟩)from by rw[s];unfold AC;rw[xG (by omega)];rfl);generalize AC (.slice (some ⟨i,0,none⟩) rows.length cL) 3 (Af (rows.map AE.id) x)=pp at*;clear g a s p hid t k e;go_enter func76,ntmps76;go_wp2_with (at_lookup;refine wpList_lookup_own_ok_int _ rfl _ _ 65 rfl 9 3 .i64 Ci underlying65 underlying3 (GL _) M _ D rfl v _ _ rfl u ?_;intro c d F;rw[f];rw[C]at d;simp only[DataW.lit.injEq,Lit.int.injEq,true_and]at d;subst d);go_ret;exact⟨by rw[h.o];rfl,rfl⟩
end
end Go.Proofs.YtogdodlibkckkaaGreatDoor
