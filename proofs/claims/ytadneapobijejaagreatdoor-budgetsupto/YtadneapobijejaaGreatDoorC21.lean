import Derived.Test.YtadneapobijejaaGreatDoorC20
import Derived.Test.YtadneapobijejaaGreatDoorC18
import Derived.Deep.RegionHeld3
import Derived.Deep.AppendLies
import Derived.Deep.DrawnRows
import Derived.Deep.RegionLaw
namespace Go.Proofs.YtadneapobijejaaGreatDoor
set_option maxHeartbeats 20000000
set_option maxRecDepth 100000
open Go.RowKit Tryz
def DH(objs:List Ap)(ifs uns:List vD)(us:List Au)(rows:List AE)(c id:vD):Bool:=if AB (objs.map Ap.name) ifs uns c<=1 then false else if Ae (rows.map AE.id) id<0 then true else match rows[(Ae (rows.map AE.id) id).toNat]? with
 |some r=>(match objs[r.k]? with|some o=>!(o.name.toList==[81,117,101,114,121])&&AU o us c|none=>false)
 |none=>false
section
variable {w0 w:World} {S:Nat} {vR vO vI vU vN:Value} {LR:List (At×Value)} {LO:List AV} {LI:List (As×Value)} {LU:List (Au×Value)} {names:List vD} {T M gO B:Nat} {vL:Value} {rows:List AE}
theorem jZ(h:SV w S vR vO vI vU vN LR LO LI LU names)(hg:∃c,vO=.slice (some ⟨gO,0,none⟩) LO.length c)(hT:EA w T S M gO B vL rows)(hk:∀r∈rows,r.k<LO.length)(id c:vD)(hid:id.size<=maxLen):
 Calls prog 159 #[.pointer (some ⟨T,0,none⟩),.string id,.string c] w fun e w'=>e=.returned (.bool (DH (LO.map Prod.fst) (LI.map iN) (LU.map uN) (LU.map Prod.fst) rows c id))/\vE w w':=by
 have cT:=Ac hT.b;have hlT:=Ab hT.b;have HKP:=Aa (Ox w S vR vO vI vU vN LR LO LI LU names c h);have HRW:=Aa (fun W (hW:vE w W)=>RZ (hT.below hW) id hid);have HQ:=Aa (DH.eq_1 (LO.map Prod.fst) (LI.map iN) (LU.map uN) (LU.map Prod.fst) rows c id);rw[show(LO.map Prod.fst).map Ap.name=LO.map oN from by rw[List.map_map];rfl]at HQ;have HH:=Aa h;have HTT:=Aa hT;have hrl:=hT.l;clear h hT;generalize DH (LO.map Prod.fst) (LI.map iN) (LU.map uN) (LU.map Prod.fst) rows c id=q at*;generalize AB (LO.map oN) (LI.map iN) (LU.map uN) c=kn at*;by_cases h1:kn<=1
 ·rw[uC h1]at HQ
  rcases(show kn=0\/kn=1 by omega)with e|e;all_goals(
   subst e;clear h1;go_enter func159,ntmps159;go_wp2_with fail;refine HKP.o.mono ?_;rintro _ w1 ⟨rfl,b1⟩;go_wp2_with fail;go_ret;exact⟨Ak HQ.o.symm,b1⟩)
 rw[uB h1]at HQ;have k0:((kn:Int)==0)=false:=by rw[beq_eq_false_iff_ne];omega
 have k1:((kn:Int)==1)=false:=by rw[beq_eq_false_iff_ne];omega
 clear h1;by_cases hneg:Ae (rows.map AE.id) id<0
 ·rw[uC hneg]at HQ
  have HP:=Aa (show AC vL 3 (Ae (rows.map AE.id) id)=.pointer none from by unfold AC;rw[uC hneg]);rw[HP.o]at HRW;clear HP hneg;go_enter func159,ntmps159;go_wp2_with fail;refine HKP.o.mono ?_;rintro _ w1 ⟨rfl,b1⟩;have B1:=Aa b1;clear b1;go_wp2_with fail;refine(HRW.o _ B1.o).mono ?_;rintro _ w' ⟨rfl,hw'⟩;have hw':=hw'.symm;subst hw';go_wp2_with fail;go_quiet (fail);go_wp2_with fail;go_ret;exact⟨Ak HQ.o.symm,below_drewN B1.o _⟩
 ·rw[uB hneg]at HQ
  obtain⟨j,r,hj,hr,_,hjl⟩:=Cl AE.id rows id hneg;obtain⟨gR,cap,hvL,r0,_,_⟩:=HTT.o.at hr;have hrk:=hk r (tO hr);obtain⟨x,hx⟩:∃x,LO[r.k]?=some x:=⟨_,tN hrk⟩;have HP:=Aa (show AC vL 3 (Ae (rows.map AE.id) id)=.pointer (some ⟨gR,j*3,none⟩)from by rw[hj,hvL];unfold AC;rw[uB (by omega)];rfl);rw[HP.o]at HRW;have HQ2:=Aa (show q=(!(x.1.name.toList==[81,117,101,114,121])&&AU x.1 (LU.map Prod.fst) c)from by rw[HQ.o,hj,uO,hr];simp only[uD,hx,Option.map_some]);have HOF:=Aa (fun W (hW:vE w W)=>RE (HH.o.below hW) r.k x hx c gO hg);obtain⟨g,cap',hv,hc⟩:=HH.o.o.cell (fun _=>rfl) r.k x hx;obtain⟨c0,hv0⟩:=hg;rw[hv0]at hv;have e2:=(Addr.mk.inj (tY (Value.slice.inj hv).1)).1;subst e2;have o0:w.cell? ⟨gO,r.k*4,none⟩=some (.string x.1.name):=by simpa using hc 0 _ rfl
  generalize AU x.1 (LU.map Prod.fst) c=qo at*;generalize x.1.name=nm1 at*;clear HP HQ hc hv hv0 hx hr hj hvL hneg hk;cases bq:(nm1.toList==[81,117,101,114,121])
  rotate_left
  ·rw[bq]at HQ2
   go_enter func159,ntmps159;go_wp2_with fail;refine HKP.o.mono ?_;rintro _ w1 ⟨rfl,b1⟩;have B1:=Aa b1;have r0:=Ah b1 r0;have o0:=Ah b1 o0;clear b1;go_wp2_with fail;refine(HRW.o _ B1.o).mono ?_;rintro _ w' ⟨rfl,hw'⟩;have hw':=hw'.symm;subst hw';go_wp2_with fail;go_quiet (fail);go_wp2_with fail;go_ret;exact⟨Ak HQ2.o.symm,below_drewN B1.o _⟩
  ·rw[bq]at HQ2
   go_enter func159,ntmps159;go_wp2_with fail;refine HKP.o.mono ?_;rintro _ w1 ⟨rfl,b1⟩;have B1:=Aa b1;have HS:=Aa (fun V (hV:vE w1 V)=>uV hV (uV (Ah hV (Ah b1 r0)) (uV (Ah hV (Ah b1 o0)) (Ah hV (Ah b1 (show w.cell? ⟨T,1,none⟩=some (.pointer (some ⟨S,0,none⟩))from cT 1))))));clear b1 cT r0 o0;go_wp2_with fail;refine(HRW.o _ B1.o).mono ?_;rintro _ w' ⟨rfl,hw'⟩;have hw':=hw'.symm;subst hw';go_wp2_with fail;go_region_held3 (fun V=>vE w1 V/\V.cell? ⟨gR,j*3,none⟩=some (.pointer (some ⟨gO,r.k*4,none⟩))/\V.cell? ⟨gO,r.k*4,none⟩=some (.string nm1)/\V.cell? ⟨T,1,none⟩=some (.pointer (some ⟨S,0,none⟩)))
    (first|exact HS.o _ (tM _ _).drew|exact HS.o _ (bT bh b2))
    (first|(go_at_call 181;obtain⟨bh, -⟩:= ‹vE w1 _/\_›;refine(HOF.o _ (bT B1.o bh)).mono ?_;rintro _ w2 ⟨rfl,b2⟩))
   all_goals(obtain⟨bh, -⟩:= ‹vE w1 _/\_›;(try go_wp2_with fail);go_ret;exact⟨Ak (by rw[HQ2.o];rfl),bT B1.o bh⟩)
end
def Fa:Nat->RV->Prop
 |0,.mk sh _ s l=>sh<=6/\s.size<=4000/\l=[]
 |k+1,.mk sh _ s l=>sh<=6/\s.size<=4000/\l.length<=803/\∀r∈l,Fa k r
theorem Fa.one{k sh:Nat}{n:Int}{s:vD}{l:List RV}(h:Fa k (.mk sh n s l)):sh<=6/\s.size<=4000/\l.length<=803/\∀r∈l,Fa (k-1) r:=by
 cases k with
 |zero=>have h':sh<=6/\s.size<=4000/\l=[]:=h;exact⟨h'.1,h'.2.1,by rw[h'.2.2];simp,fun r hr=>by rw[h'.2.2]at hr;simp at hr⟩
 |succ k=>exact h
def CW(R:vD->vD->Bool):Bo->RV->Bool
 | .one c _,.mk sh n s _=>if sh=0\/sh=6 then true else if sh=5 then false else if sh=4 then R c s else IK (Cy (sh,n,s)).1 c
 | .list t _,.mk sh n s l=>if sh=0\/sh=6 then true else if sh=5 then l.all (CW R t)else if sh=4 then R ⟨#[]⟩ s else IK (Cy (sh,n,s)).1 ⟨#[]⟩
theorem WM(sh:Nat)(n:Int)(s:vD)(l:List RV):pv (.mk sh n s l)=.mk (Cy (sh,n,s)).1 (Cy (sh,n,s)).2.1 (Cy (sh,n,s)).2.2 (l.map pv):=by rw[pv,KY]
section
variable {w0:World} {T:Nat} {R:vD->vD->Bool}
def SN(w0:World)(T:Nat)(R:vD->vD->Bool)(ty:Bo):Prop:=∀(W:World) (u:Value) (v:FV) (r:RV) (k m B:Nat),vE w0 W->Bu W B u ty->AX W (fun g=>g<W.heap.size) k v (pv r)->Fa m r->
 Calls prog 112 #[.pointer (some ⟨T,0,none⟩),Ck v,u] W fun e w'=>e=.returned (.bool (CW R ty r))/\vE W w'
theorem YT{t:Bo}(ih:SN w0 T R t)(W:World)(u:Value)(v:FV)(sh:Nat)(n:Int)(s:vD)(l:List RV)(k m B:Nat)(hB:vE w0 W)(ht:Bu W B u t)(hv:AX W (fun g=>g<W.heap.size) k v (.mk sh n s (l.map pv)))(hl:l.length<=803)(ho:∀r∈l,Fa m r):
 Calls prog 158 #[.pointer (some ⟨T,0,none⟩),.slice v.la v.ln v.lc,u] W fun e w'=>e=.returned (.bool (l.all (CW R t)))/\vE W w':=by
 obtain⟨ku,rfl⟩:=ht.ptr;obtain⟨vsh,vn,vs,vla,vln,vlc⟩:=v;obtain⟨e1,e2,e3,e4⟩:=hv.parts;simp only[uP]at e1 e2 e3 e4⊢;subst e4;have HV:=Aa hv;have HT:=Aa ht;have HO:=Aa ho;obtain⟨q,HQ⟩:∃q,Hi (q=l.all (CW R t)):=⟨_,Aa rfl⟩;rw[<-HQ.o];clear hv ht ho e1 e2 e3;go_enter func158,ntmps158;go_wp2_with fail;go_loopg [8,11] l.length (fun m v8 v11 wr=>∃i:Nat,v11=.int .i64 i/\i<=l.length/\l.length-i<=m/\vE W wr/\q=(l.drop i).all (CW R t))
 case atStart=>exact⟨0,rfl,tU _,tL _,tM _ _,HQ.o⟩
 case round=>
  obtain⟨i,rfl,hil,hm,hb,hq⟩:=hrel;have HB:=Aa hb;have HQI:=Aa hq;clear hb hq;by_cases hlt:i<l.length
  ·have hx:=tN hlt
   generalize l[i]=r at hx;have HQN:=Aa (show q=(CW R t r&&(l.drop (i+1)).all (CW R t))from by rw[HQI.o,Oe hx];rfl);obtain⟨k',g,f,e,hg,c0,c1,c2,c3,hvf⟩:=HV.o.elem (show(l.map pv)[i]?=some (pv r)by rw[uD,hx];rfl);simp only at e;subst e;have hgw:g<wr.heap.size:=tV hg HB.o.size;have c0:=Ah HB.o c0;have c1:=Ah HB.o c1;have c2:=Ah HB.o c2;have c3:=Ah HB.o c3;have HF:=Aa (fun X (hX:vE wr X)=>ih X (.pointer (some ⟨ku,0,none⟩)) f r k' m B (bT (bT hB HB.o) hX) (HT.o.stays (Ao.of_below (bT HB.o hX))) (hvf.frame (fun g hg o=>(bT HB.o hX).cell (p:=⟨g,o,none⟩) hg) (fun g hg=>tV hg (bT HB.o hX).size)) (HO.o r (tO hx)));unfold Ck at HF;generalize CW R t r=qr at*;clear hx hvf hg;cases qr
   ·have HF0:=Aa (show q=false from HQN.o)
    go_wp2_with fail;refine(HF.o _ (bA (tM _ _) _)).mono ?_;rintro _ w1 ⟨rfl,b1⟩;go_wp2_with fail;go_ret;exact⟨Ak HF0.o.symm,bT (bA HB.o _) b1⟩
   ·go_wp2_with fail
    refine(HF.o _ (bA (tM _ _) _)).mono ?_;rintro _ w1 ⟨rfl,b1⟩;have B1:=Aa (bT (bA HB.o _) b1);clear b1;go_wp2_with fail;go_roundg (l.length-(i+1))
    case measure=>omega
    case rel=>exact⟨i+1,by go_num,by omega,tL _,B1.o,HQN.o⟩
  ·have hie:i=l.length:=by omega
   subst hie;have HT1:=Aa (show q=true from by rw[HQI.o,List.drop_length];rfl);go_wp2_with fail;go_ret;exact⟨Ak HT1.o.symm,HB.o⟩
end
section
variable {w0:World} {T:Nat} {R:vD->vD->Bool}
def PT(w0:World)(T:Nat)(R:vD->vD->Bool):Prop:=∀W,vE w0 W->∀id c:vD,id.size<=maxLen->Calls prog 159 #[.pointer (some ⟨T,0,none⟩),.string id,.string c] W fun e w'=>e=.returned (.bool (R c id))/\vE W w'
theorem Uh(hM:PT w0 T R)(W:World)(hB:vE w0 W)(ku kt:Nat)(nm:vD)(ui:Value)(st:Bool)(hty:W.heap[ku]?=some (.cells #[.string nm,.int .i64 kt,ui,.bool st] 269 (0,0)))(v:FV)(hs:v.s.size<=maxLen)(hK:v.sh=7->kt=0):
 Calls prog 112 #[.pointer (some ⟨T,0,none⟩),Ck v,.pointer (some ⟨ku,0,none⟩)] W fun e w'=>e=.returned (.bool (if v.sh=0\/v.sh=8 then true else if v.sh=7 then false else if v.sh=6 then R nm v.s else IK v.sh nm))/\vE W w':=by
 obtain⟨vsh,vn,vs,vla,vln,vlc⟩:=v;simp only[Ck]at hs hK⊢;have hlk:=Ab hty;have ct:=Ac hty;by_cases h0:vsh=0\/vsh=8
 ·rw[uC h0]
  rcases h0 with e|e;all_goals(
   subst e;go_enter func112,ntmps112;go_wp2_with fail;go_ret;exact⟨rfl,bA (tM _ _) _⟩)
 rw[uB h0];have a0:((vsh:Int)==0)=false:=by rw[beq_eq_false_iff_ne];omega
 have a8:((vsh:Int)==8)=false:=by rw[beq_eq_false_iff_ne];omega
 clear h0;by_cases h7:vsh=7
 ·rw[uC h7]
  have e:=hK h7;subst h7 e;clear a0 a8 hK;go_enter func112,ntmps112;go_wp2_with fail;go_quiet (fail);go_wp2_with fail;go_ret;exact⟨rfl,below_drewN (bA (tM _ _) _) _⟩
 rw[uB h7];have a7:((vsh:Int)==7)=false:=by rw[beq_eq_false_iff_ne];omega
 clear h7 hK;by_cases h6:vsh=6
 ·rw[uC h6]
  subst h6;have HM:=Aa (fun X (hX:vE W X)=>hM X (bT hB hX) vs nm hs);generalize R nm vs=q at*;clear a0 a8 a7;go_enter func112,ntmps112;go_wp2_with fail;have hN:=tS W (.cells #[.int .i64 6,.int .i64 vn,.string vs,.slice vla vln vlc] 238);have hb:=bA (tM W.heap.size W) (.cells #[.int .i64 6,.int .i64 vn,.string vs,.slice vla vln vlc] 238);generalize W.alloc (.cells #[.int .i64 6,.int .i64 vn,.string vs,.slice vla vln vlc] 238)=W1 at*;have cN:=Ac hN;have hlN:=Ab hN;have HB1:=Aa hb;have HS:=Aa (fun V (hV:vE W1 V)=>uV hV (uV (fun k=>(hV.cell (p:=⟨W.heap.size,k,none⟩) hlN).trans (cN k)) (fun k=>((bT hb hV).cell (p:=⟨ku,k,none⟩) hlk).trans (ct k))));clear hN hb cN ct;go_region_held3 (fun V=>vE W1 V/\(∀k,V.cell? ⟨W.heap.size,k,none⟩=(#[.int .i64 6,.int .i64 vn,.string vs,.slice vla vln vlc]:Array Value)[k]?)/\(∀k,V.cell? ⟨ku,k,none⟩=(#[.string nm,.int .i64 kt,ui,.bool st]:Array Value)[k]?))
   (first|exact HS.o _ (tM _ _).drew|exact HS.o _ (bT bh b2))
   (first|(go_at_call 159;obtain⟨bh, -⟩:= ‹vE W1 _/\_›;refine(HM.o _ (bT HB1.o bh)).mono ?_;rintro _ w2 ⟨rfl,b2⟩))
  all_goals(obtain⟨bh, -⟩:= ‹vE W1 _/\_›;(try go_wp2_with fail);go_ret;exact⟨rfl,bT HB1.o bh⟩)
 ·rw[uB h6]
  have a6:((vsh:Int)==6)=false:=by rw[beq_eq_false_iff_ne];omega
  have HI:=Aa (fun X=>Uy X vsh vn vs nm);generalize IK vsh nm=q at*;clear h6;go_enter func112,ntmps112;go_wp2_with fail;have hN:=tS W (.cells #[.int .i64 vsh,.int .i64 vn,.string vs,.slice vla vln vlc] 238);have hb:=bA (tM W.heap.size W) (.cells #[.int .i64 vsh,.int .i64 vn,.string vs,.slice vla vln vlc] 238);generalize W.alloc (.cells #[.int .i64 vsh,.int .i64 vn,.string vs,.slice vla vln vlc] 238)=W1 at*;have cN:=Ac hN;have hlN:=Ab hN;have HB1:=Aa hb;have HS:=Aa (fun V (hV:vE W1 V)=>uV hV (uV (fun k=>(hV.cell (p:=⟨W.heap.size,k,none⟩) hlN).trans (cN k)) (fun k=>((bT hb hV).cell (p:=⟨ku,k,none⟩) hlk).trans (ct k))));clear hN hb cN ct;go_region_held3 (fun V=>vE W1 V/\(∀k,V.cell? ⟨W.heap.size,k,none⟩=(#[.int .i64 vsh,.int .i64 vn,.string vs,.slice vla vln vlc]:Array Value)[k]?)/\(∀k,V.cell? ⟨ku,k,none⟩=(#[.string nm,.int .i64 kt,ui,.bool st]:Array Value)[k]?))
   (first|exact HS.o _ (tM _ _).drew|exact HS.o _ (bT bh b2))
   (first|(go_at_call 76;obtain⟨bh, -⟩:= ‹vE W1 _/\_›;refine(HI.o _).mono ?_;rintro _ w2 ⟨rfl,b2⟩))
  all_goals(obtain⟨bh, -⟩:= ‹vE W1 _/\_›;(try go_wp2_with fail);go_ret;exact⟨rfl,bT HB1.o bh⟩)
theorem Oy{sh:Nat}(h:sh<=6)(n:Int)(s:vD):((Cy (sh,n,s)).1=0↔sh=0)/\((Cy (sh,n,s)).1=8↔sh=6)/\((Cy (sh,n,s)).1=7↔sh=5)/\((Cy (sh,n,s)).1=6↔sh=4)/\(Cy (sh,n,s)).2.2.size<=s.size/\(sh=4->(Cy (sh,n,s)).2.2=s):=by
 unfold Cy;dsimp only;split
 ·rename_i h3
  have h3:sh=3:=h3;subst h3;split<;>exact⟨by simp,by simp,by simp,by simp,tU _,fun e=>by omega⟩
 ·split
  ·simp;omega
  ·split
   ·simp;omega
   ·split
    ·simp;omega
    ·simp;omega
theorem nR(hM:PT w0 T R):∀ty:Bo,SN w0 T R ty:=by
 intro ty
 induction ty with
 |one c st=>
  intro W u v r k m B hB ht hv ho;obtain⟨sh,n,s,l⟩:=r;obtain⟨o1,o2,_,_⟩:=ho.one;rw[WM]at hv;obtain⟨e1,_,e3,_⟩:=hv.parts;obtain⟨k0,k8,k7,k6,ks,k4⟩:=Oy o1 n s;obtain⟨ku,rfl,_,hb⟩:=ht;refine(Uh hM W hB ku 0 c (.pointer none) st hb v (by rw[e3];unfold maxLen;omega) (fun _=>rfl)).mono ?_;rintro _ w' ⟨rfl,b1⟩;refine⟨Ak ?_,b1⟩;rw[e1,e3];show _=CW R (.one c st) (.mk sh n s l);rw[CW];simp only[k0,k8,k7,k6];split
  ·rfl
  ·split
   ·rfl
   ·split
    ·rename_i h;rw[k4 h]
    ·rfl
 |list t st ih=>
  intro W u v r k m B hB ht hv ho;obtain⟨sh,n,s,l⟩:=r;obtain⟨o1,o2,o3,o4⟩:=ho.one;rw[WM]at hv;obtain⟨e1,e2,e3,e4⟩:=hv.parts;obtain⟨k0,k8,k7,k6,ks,k4⟩:=Oy o1 n s;obtain⟨ku,ui,rfl,_,hb,hti⟩:=ht;by_cases h5:sh=5
  ·subst h5
   have HA:=Aa (fun X (hX:vE W X)=>YT ih X ui v _ _ _ l k (m-1) B (bT hB hX) (hti.stays (Ao.of_below hX)) (hv.frame (fun g hg o=>hX.cell (p:=⟨g,o,none⟩) hg) (fun g hg=>tV hg hX.size)) o3 o4);obtain⟨ki,rfl⟩:=hti.ptr;rw[show CW R (.list t st) (.mk 5 n s l)=l.all (CW R t)from by rw[CW];simp];generalize l.all (CW R t)=q at*;obtain⟨vsh,vn,vs,vla,vln,vlc⟩:=v;simp only[Ck]at e1 HA⊢;rw[show vsh=7 from e1];have hlk:=Ab hb;have ct:=Ac hb;clear hv ho o4 e2 e3 e4 k4 ks k0 k8 k7 k6 e1 hti;go_enter func112,ntmps112;go_wp2_with fail;have hN:=tS W (.cells #[.int .i64 7,.int .i64 vn,.string vs,.slice vla vln vlc] 238);have hb1:=bA (tM W.heap.size W) (.cells #[.int .i64 7,.int .i64 vn,.string vs,.slice vla vln vlc] 238);generalize W.alloc (.cells #[.int .i64 7,.int .i64 vn,.string vs,.slice vla vln vlc] 238)=W1 at*;have cN:=Ac hN;have hlN:=Ab hN;have HB1:=Aa hb1;have HS:=Aa (fun V (hV:vE W1 V)=>uV hV (uV (fun k=>(hV.cell (p:=⟨W.heap.size,k,none⟩) hlN).trans (cN k)) (fun k=>((bT hb1 hV).cell (p:=⟨ku,k,none⟩) hlk).trans (ct k))));clear hN hb1 cN ct hb;go_region_held3 (fun V=>vE W1 V/\(∀k,V.cell? ⟨W.heap.size,k,none⟩=(#[.int .i64 7,.int .i64 vn,.string vs,.slice vla vln vlc]:Array Value)[k]?)/\(∀k,V.cell? ⟨ku,k,none⟩=(#[.string ⟨#[]⟩,.int .i64 1,.pointer (some ⟨ki,0,none⟩),.bool st]:Array Value)[k]?))
    (first|exact HS.o _ (tM _ _).drew|exact HS.o _ (bT bh b2))
    (first|(go_at_call 158;obtain⟨bh, -⟩:= ‹vE W1 _/\_›;refine(HA.o _ (bT HB1.o bh)).mono ?_;rintro _ w2 ⟨rfl,b2⟩))
   all_goals(obtain⟨bh, -⟩:= ‹vE W1 _/\_›;(try go_wp2_with fail);go_ret;exact⟨rfl,bT HB1.o bh⟩)
  ·refine(Uh hM W hB ku 1 ⟨#[]⟩ ui st hb v (by rw[e3];unfold maxLen;omega) (fun e=>absurd (k7.1 (e1.symm.trans e)) h5)).mono ?_
   rintro _ w' ⟨rfl,b1⟩;refine⟨Ak ?_,b1⟩;rw[e1,e3];show _=CW R (.list t st) (.mk sh n s l);rw[CW];simp only[k0,k8,k7,k6,uB h5];split
   ·rfl
   ·split
    ·rename_i h;rw[k4 h]
    ·rfl
end
open Go.Maps Tryz
open Go.ChangeMaps Tryz
theorem mE{a b c:Value}(h1:a.oneCell'=true)(h2:b.oneCell'=true)(h3:c.oneCell'=true):∀u∈[a,b,c],u.oneCell'=true:=by
 intro u hu;simp at hu;rcases hu with rfl|rfl|rfl<;>assumption
def Jo(objs:List vD)(rows:List AE)(ty id:vD):Bool:=decide (0<=Ae objs ty)&&(decide (Ae (rows.map AE.id) id<0)&&Ly ty id)
theorem info134:(prog.info? 134).map (fun i=>(i.zero,i.size,i.bytes))=some (some (.agg #[.pointer none,.string ⟨#[]⟩,.slice none 0 0]),3,48):=by kernel_rfl
theorem dY(ty id:vD):Ly ty id=((ty.toList==[81,117,101,114,121])==(id.toList==[])):=by
 unfold Ly;rw[BN ty,BN id];rfl
section
variable {w0:World} {S:Nat} {vR vO vI vU vN:Value} {LR:List (At×Value)} {LO:List AV} {LI:List (As×Value)} {LU:List (Au×Value)} {names:List vD} {T M gO:Nat} {vL:Value} {rows:List AE}
theorem YP(h:SV w0 S vR vO vI vU vN LR LO LI LU names)(hg:∃c,vO=.slice (some ⟨gO,0,none⟩) LO.length c)(W:World)(hB:vE w0 W)(hT:EA W T S M gO w0.heap.size vL rows)(hTb:w0.heap.size<=T)(hMb:w0.heap.size<=M)(ty id:vD)(aC:Option Addr)(nC cC:Nat)(hid:id.size<=2000000)(hrl:rows.length<=200):
 Calls prog 61 #[.pointer (some ⟨T,0,none⟩),.agg #[.string ty,.string id,.slice aC nC cC]] W fun e w'=>e=.returned (.bool (Jo (LO.map oN) rows ty id))/\vE w0 w'/\(Jo (LO.map oN) rows ty id=true->∃vL',EA w' T S M gO w0.heap.size vL' (rows++[⟨(Ae (LO.map oN) ty).toNat,id,.slice none 0 0,[]⟩])):=by
 obtain⟨iR,hiR,zR0,zR1,zR2⟩:=info_parts info134;obtain⟨aL,cL,hvL⟩:=An hT.r;subst hvL;have hlT:=Ab hT.b;have cT:=Ac hT.b;have HQ:=Aa (Jo.eq_1 (LO.map oN) rows ty id);rw[dY]at HQ;have HO:=Aa (fun X (hX:vE W X)=>Nx X S vR vO vI vU vN LR LO LI LU names ty (h.below (bT hB hX)));have HRW:=Aa (fun X (hX:vE W X)=>RZ (hT.below hX) id (by unfold maxLen;omega));have hnil:=GO h.rowObject ty;have HTT:=Aa hT;have HB:=Aa hB;have HID:=Aa (Nd id (by unfold maxLen;omega));obtain⟨c0,hv0⟩:=hg;have HPO:=Aa (show¬Ae (LO.map oN) ty<0->AC vO 4 (Ae (LO.map oN) ty)=.pointer (some ⟨gO,(Ae (LO.map oN) ty).toNat*4,none⟩)from fun e=>by rw[hv0];unfold AC;rw[uB e]);have HNIL:=Aa hnil.1;clear h hT hnil hv0 hB;generalize Jo (LO.map oN) rows ty id=q at*;generalize AC vO 4 (Ae (LO.map oN) ty)=po at*;generalize Ae (LO.map oN) ty=ko at*;go_enter func61,ntmps61;go_upto_region 1 with fail;have hN:=tS W (.cells #[.string ty,.string id,.slice aC nC cC] 56);have hb:=bA (tM W.heap.size W) (.cells #[.string ty,.string id,.slice aC nC cC] 56);generalize W.alloc (.cells #[.string ty,.string id,.slice aC nC cC] 56)=W1 at*;have cN:=Ac hN;have hlN:=Ab hN;have HN:=Aa hN;have HB1:=Aa hb;have HS:=Aa (fun V (hV:vE W1 V)=>uV hV (uV (fun k=>(hV.cell (p:=⟨W.heap.size,k,none⟩) hlN).trans (cN k)) (fun k=>((bT hb hV).cell (p:=⟨T,k,none⟩) hlT).trans (cT k))));clear hN hb cN cT;go_cut [5] (fun v5 wc=>v5=po/\vE W1 wc)
 case first=>
  go_region_held3 (fun V=>vE W1 V/\(∀k,V.cell? ⟨W.heap.size,k,none⟩=(#[.string ty,.string id,.slice aC nC cC]:Array Value)[k]?)/\(∀k,V.cell? ⟨T,k,none⟩=(#[.slice aL rows.length cL,.pointer (some ⟨S,0,none⟩),.map (some M)]:Array Value)[k]?))
   (first|exact HS.o _ (tM _ _).drew|exact HS.o _ (bT bh b2))
   (first|(go_at_call 49;obtain⟨bh, -⟩:= ‹vE W1 _/\_›;refine(HO.o _ (bT HB1.o bh)).mono ?_;rintro _ w2 ⟨rfl,b2⟩))
  all_goals(obtain⟨bh, -⟩:= ‹vE W1 _/\_›;(try go_wp2_with fail);go_meet;exact⟨rfl,bh⟩)
 case rest=>
  obtain⟨rfl,hb2⟩:=hcut;obtain⟨_,cN,cT⟩:=HS.o _ hb2;have HB2:=Aa (bT HB1.o hb2);clear hb2 HS HO;by_cases hk:ko<0
  ·have e:=HNIL.o hk
   subst e;have HF:=Aa (show q=false from by rw[HQ.o,tT (by omega)];rfl);clear HQ;go_wp2_with fail;go_ret;exact⟨Ak HF.o.symm,bT HB.o HB2.o,fun e=>by rw[HF.o]at e;cases e⟩
  have e:=HPO.o hk;subst e;rw[uH (show 0<=ko by omega)]at HQ;have HQ:=Aa (show q=(decide (Ae (rows.map AE.id) id<0)&&((ty.toList==[81,117,101,114,121])==(id.toList==[])))from HQ.o);clear HNIL HPO;by_cases hr:Ae (rows.map AE.id) id<0
  rotate_left
  ·obtain⟨j,r,hj,hrr,_,hjl⟩:=Cl AE.id rows id hr
   obtain⟨gR,cap,e,_,_,_⟩:=HTT.o.at hrr;rw[e,hj]at HRW;rw[show AC (.slice (some ⟨gR,0,none⟩) rows.length cap) 3 (j:Int)=.pointer (some ⟨gR,j*3,none⟩)from by unfold AC;rw[uB (by omega)];rfl]at HRW;have HF:=Aa (show q=false from by rw[HQ.o,tT hr];rfl);clear HQ hj hrr e;go_wp2_with fail;refine(HRW.o _ HB2.o).mono ?_;rintro _ w' ⟨rfl,hw'⟩;have hw':=hw'.symm;subst hw';go_wp2_with fail;go_ret;exact⟨Ak HF.o.symm,bT HB.o HB2.o,fun e=>by rw[HF.o]at e;cases e⟩
  rw[uH hr]at HQ;have HQ:=Aa (show q=((ty.toList==[81,117,101,114,121])==(id.toList==[]))from HQ.o);rw[show AC (.slice aL rows.length cL) 3 (Ae (rows.map AE.id) id)=.pointer none from by unfold AC;rw[uC hr]]at HRW;have HNI:=Aa (show id∉rows.map AE.id from fun e=>by have:=LC _ _ e;omega);clear hr;have RF:=Aa (show∀X,vE W X->q=false->vE w0 X/\(q=true->∃vL',EA X T S M gO w0.heap.size vL' (rows++[⟨ko.toNat,id,.slice none 0 0,[]⟩]))from fun X hX e=>⟨bT HB.o hX,fun e'=>by rw[e]at e';cases e'⟩);cases b1:(id.toList==[])<;>cases b2:(ty.toList==[81,117,101,114,121])<;>rw[b1,b2]at HQ
  case false.true=>
   have HF:=Aa (show q=false from HQ.o);go_wp2_with fail;refine(HRW.o _ HB2.o).mono ?_;rintro _ w' ⟨rfl,hw'⟩;have hw':=hw'.symm;subst hw';go_wp2_with fail;go_ret;exact⟨Ak HF.o.symm,RF.o _ HB2.o HF.o⟩
  case true.false=>
   have HF:=Aa (show q=false from HQ.o);go_wp2_with fail;refine(HRW.o _ HB2.o).mono ?_;rintro _ w' ⟨rfl,hw'⟩;have hw':=hw'.symm;subst hw';go_wp2_with fail;go_ret;exact⟨Ak HF.o.symm,RF.o _ HB2.o HF.o⟩
  all_goals(
   have HTR:=Aa (show q=true from HQ.o);clear RF HQ;go_wp2_with fail;refine(HRW.o _ HB2.o).mono ?_;rintro _ w' ⟨rfl,hw'⟩;have hw':=hw'.symm;subst hw';go_wp2_with fail;refine(Qn id _ hid).mono ?_;rintro _ W3 ⟨rfl,b3⟩;have hB3:=bT HB2.o b3;have T3:=HTT.o.below hB3;obtain⟨D,hown,hpm⟩:=T3.m;have hwf:(Lit.int .i64 (rows.length:Int)).wf=true:=by simp[Lit.wf,IntKind.min,IntKind.max,IntKind.bits,IntKind.signed];omega
   obtain⟨W4,hrun,wG,vT⟩:=hown.drew.update Ca underlying73 (by unfold maxLen;omega) HID.o (plainElem_int (H:=Unit) underlying3 hwf);have HPM:=Aa (hpm.snoc id);rw[uP]at HPM;have hTM:T≠M:=fun e=>by
    obtain⟨es,cl,hb,_⟩:=hown;have:=T3.b;rw[e,hb]at this;cases this
   have HT4:=Aa ((vT.block T (Ab T3.b) (fun e=>hTM (tY e))).trans T3.b);have cT3:=Ac T3.b;have hlT3:=Ab T3.b;have hrM:∀k,(Value.slice aL rows.length cL).ownBlock=some k->k≠M:=fun k hk e=>by
    rcases T3.r.2 with⟨y,_⟩|⟨g,cap,cur,hv,_,hh,_⟩
    ·rw[y]at hk;cases hk
    ·rw[hv]at hk
     have e1:=tY (show some g=some k from hk);obtain⟨es,cl,hb,_⟩:=hown;rw[e1,e,hb]at hh;cases hh
   have HR4:=Aa (show W4.ownsRow w0.heap.size 134 3 (.slice aL rows.length cL) rows.length (rows.flatMap (qL gO))from RA T3.r (fun k hk=>vT.block k (KV T3.r k hk) (fun e=>hrM k hk (tY e))));have HO4:=Aa wG;have HG4:=Aa vT;have HB3:=Aa hB3;have hneT:Option.some T≠(Value.slice aL rows.length cL).ownBlock:=Ep HR4.o HT4.o (by decide);have hneM:Option.some M≠(Value.slice aL rows.length cL).ownBlock:=fun e=>hrM M e.symm rfl;have HND:=Aa T3.n;have hz4:=vT.size;clear b3 hB3 hpm hown wG vT cN cT hrM T3;go_wp2_with fail;go_region;all_goals(
    clear hrun cT3;have cT4:=Ac HT4.o;have hlT4:=Ab HT4.o;go_wp2_with (at_builtin;refine wpList_append_lies _ rfl _ _ 72 rfl w0.heap.size 134 iR _ 3 48 underlying72 hiR zR0 zR1 zR2 rfl (by decide) _ _ _ rfl (HR4.o.alloc _) ⟨W4.heap.size,0,none⟩ 1 1 [.pointer (some ⟨gO,ko.toNat*4,none⟩),.string id,.slice none 0 0] rfl rfl (Cs _ _ _ _ (by simp)) (mE rfl rfl rfl) (by decide) (by unfold maxLen;omega) (by omega) (by simp;omega) (W4.heap.size+1) (by simp) ?_;intro g' cap' x3 hown' hgrow hwh hgs;have hX5:=(hgrow.block T (by simp;omega) hneT).trans ((AK _ _ _ hlT4).trans HT4.o);have hc5:=Ac hX5;have hf5:=Am hX5;have hl5:=Ab hX5;have HX5:=Aa hX5;have HOWN:=Aa hown';have vZ:=Aa hgrow;clear hX5 hown' hgrow);go_ret;refine⟨Ak HTR.o.symm,?_,fun _=>⟨.slice (some ⟨g',0,none⟩) (rows.length+1) cap',?_⟩⟩
    ·have hb4:=bT HB.o HB3.o
     have hgz:=vZ.o.size;simp at hgz;refine⟨vZ.o.os.trans (HG4.o.os.trans hb4.os),vZ.o.tape.trans (HG4.o.tape.trans hb4.tape),vZ.o.output.trans (HG4.o.output.trans hb4.output),by have:=hb4.size;have:W3.heap.size<=W4.heap.size:=hz4;simp[World.setCell];omega,fun k hk=>?_⟩;have h3:W3.heap.size<=W4.heap.size:=hz4;have h4:=hb4.size;exact(tX _ _ _ _ (show k≠T by omega)).trans ((vZ.o.block k (by simp;omega) (LW HR4.o hk)).trans ((AK _ _ _ (by omega)).trans ((HG4.o.block k (show k<W3.heap.size by omega) (fun e=>by have:=tY e;omega)).trans (hb4.block k hk))))
    ·have hgT:(Value.slice (some ⟨g',0,none⟩) (rows.length+1) cap').ownBlock≠some T:=fun e=>Ep HOWN.o HX5.o (by decide) e.symm
     refine⟨AI HX5.o 0 _,?_,⟨_,?_,by rw[uU];exact HPM.o⟩,by rw[uU,List.map_cons,List.map_nil,OM];exact⟨HND.o,HNI.o⟩,by simp;omega⟩
     ·rw[uE,List.flatMap_append]
      exact Di HOWN.o hgT 0 _
     ·rw[uE]
      exact((HO4.o.alloc _).kept vZ.o hneM).kept (row:=some T) ⟨rfl,rfl,rfl,by simp[World.setCell],fun i _ hi=>tX _ _ _ _ (fun e=>hi (by rw[show i=T from e]))⟩ (fun e=>hTM (tY e).symm)))
end
def qz(objs:List vD)(y:Bc):AE:=⟨(Ae objs y.1).toNat,y.2.1,.slice none 0 0,[]⟩
def GC(objs:List vD):List AE->List Bc->Bool
 |_,[]=>true
 |acc,y::ys=>Jo objs acc y.1 y.2.1&&GC objs (acc++[qz objs y]) ys
section
variable {w0:World} {S:Nat} {vR vO vI vU vN:Value} {LR:List (At×Value)} {LO:List AV} {LI:List (As×Value)} {LU:List (Au×Value)} {names:List vD} {T M gO:Nat} {vL:Value}
theorem YM(h:SV w0 S vR vO vI vU vN LR LO LI LU names)(hg:∃c,vO=.slice (some ⟨gO,0,none⟩) LO.length c)(W:World)(hB:vE w0 W)(hT:EA W T S M gO w0.heap.size vL [])(hTb:w0.heap.size<=T)(hMb:w0.heap.size<=M)(aY:Option Addr)(cY:Nat)(ys:List Bc)(hY:Fh w0 (.slice aY ys.length cY) ys)(hyl:ys.length<=200)(hid:∀y∈ys,y.2.1.size<=2000000):
 Calls prog 30 #[.pointer (some ⟨T,0,none⟩),.slice aY ys.length cY] W fun e w'=>e=.returned (.bool (GC (LO.map oN) [] ys))/\vE w0 w'/\(GC (LO.map oN) [] ys=true->∃vL',EA w' T S M gO w0.heap.size vL' (ys.map (qz (LO.map oN)))):=by
 have HA:=Aa (fun X (hX:vE w0 X) vL' rows (hT':EA X T S M gO w0.heap.size vL' rows) ty id aC nC cC=>YP h hg X hX hT' hTb hMb ty id aC nC cC);have HY:=Aa hY;have HT:=Aa hT;have HB:=Aa hB;obtain⟨q,HQ⟩:∃q,Hi (q=GC (LO.map oN) [] ys):=⟨_,Aa rfl⟩;rw[<-HQ.o];clear h hg hT hB hY;generalize LO.map oN=objs at*;go_enter func30,ntmps30;go_wp2_with fail;go_loopg [6,9] ys.length (fun m v6 v9 wr=>∃(i:Nat) (vL':Value),v9=.int .i64 i/\i<=ys.length/\ys.length-i<=m/\vE w0 wr/\EA wr T S M gO w0.heap.size vL' ((ys.take i).map (qz objs))/\q=GC objs ((ys.take i).map (qz objs)) (ys.drop i))
 case atStart=>exact⟨0,vL,rfl,tU _,tL _,HB.o,HT.o,HQ.o⟩
 case round=>
  obtain⟨i,vL',rfl,hil,hm,hb,ht,hq⟩:=hrel;have HBR:=Aa hb;have HTR:=Aa ht;have HQI:=Aa hq;clear hb ht hq;by_cases hlt:i<ys.length
  ·have hx:=tN hlt
   generalize ys[i]=y at hx;obtain⟨gY,oY,aC,cC,e,y0,y1,y2,_⟩:=(HY.o.below HBR.o).at hx;subst e;have hgY:gY<wr.heap.size:=tR wr _ y0;have HQN:=Aa (show q=(Jo objs ((ys.take i).map (qz objs)) y.1 y.2.1&&GC objs ((ys.take i).map (qz objs)++[qz objs y]) (ys.drop (i+1)))from by rw[HQI.o,Oe hx];rfl);have HTK:=Aa (show(ys.take (i+1)).map (qz objs)=(ys.take i).map (qz objs)++[qz objs y]from by rw[uG,hx,uU];rfl);have HC:=Aa (fun X (hX:vE wr X)=>HA.o X (bT HBR.o hX) vL' _ (HTR.o.below hX) y.1 y.2.1 aC y.2.2.length cC (hid y (tO hx)) (by simp;omega));obtain⟨qa,HQA⟩:∃qa,Hi (Jo objs ((ys.take i).map (qz objs)) y.1 y.2.1=qa):=⟨_,Aa rfl⟩;rw[HQA.o]at HQN HC;clear hx HA;go_wp2_with fail;refine(HC.o _ (bA (tM _ _) _)).mono ?_;rintro _ w1 ⟨rfl,b1,ht1⟩;cases qa
   ·have HF:=Aa (show q=false from HQN.o)
    go_wp2_with fail;go_ret;exact⟨Ak HF.o.symm,b1,fun e=>by rw[HF.o]at e;cases e⟩
   ·obtain⟨vL2,h2⟩:=ht1 rfl
    have HT2:=Aa h2;have HB2:=Aa b1;clear h2 b1 ht1;go_wp2_with fail;go_roundg (ys.length-(i+1))
    case measure=>omega
    case rel=>exact⟨i+1,vL2,by go_num,by omega,tL _,HB2.o,by rw[HTK.o];exact HT2.o,by rw[HTK.o];exact HQN.o⟩
  ·have hie:i=ys.length:=by omega
   subst hie;have HT1:=Aa (show q=true from by rw[HQI.o,List.drop_length];rfl);go_wp2_with fail;go_ret;exact⟨Ak HT1.o.symm,HBR.o,fun _=>⟨vL',by rw[<-List.take_length (l:=ys)];exact HTR.o⟩⟩
end
attribute [local go_sem ↓] Go.wp_at_zero Go.wp_at_succ
structure FS(w:World)(T S M gO B0 B1 gR cR:Nat)(rows:List AE):Prop where
 s:EA w T S M gO B0 (.slice (some ⟨gR,0,none⟩) rows.length cR) rows
 t:T<B1
 g:gR<B1
 b:B1<=w.heap.size
 c:∀(j:Nat) (r:AE),rows[j]?=some r->w.ownsRow B1 250 6 r.v r.cs.length (r.cs.flatMap KX)
 d:∀(i j:Nat) (r r':AE),i≠j->rows[i]?=some r->rows[j]?=some r'->∀k,r.v.ownBlock=some k->r'.v.ownBlock≠some k
 f:∀r∈rows,∀c∈r.cs,c.g<B0/\Ce w c.g c.o c.f c.u
 v:∀r∈rows,∀c∈r.cs,AX w (fun k=>B1<=k/\k<w.heap.size/\∀r'∈rows,r'.v.ownBlock≠some k) 1603 c.c (pv (Dk c.t))
 lc:∀r∈rows,∀c∈r.cs,c.c.ln<=c.c.lc
theorem Ce.below'{w w':World}{g o:Nat}{f:Al}{u:Value}(h:Ce w g o f u)(hb:∀k,w'.cell? ⟨g,k,none⟩=w.cell? ⟨g,k,none⟩):Ce w' g o f u:=
 ⟨(hb _).trans h.c0,(hb _).trans h.c1,(hb _).trans h.c2,(hb _).trans h.c3,(hb _).trans h.c4,(hb _).trans h.c5⟩
section
variable {w w':World} {T S M gO B0 B1 gR cR:Nat} {rows:List AE}
theorem FS.below(h:FS w T S M gO B0 B1 gR cR rows)(hb:vE w w'):FS w' T S M gO B0 B1 gR cR rows where
 s:=h.s.below hb
 t:=h.t
 g:=h.g
 b:=tQ h.b hb.size
 c:=fun j r hj=>AT (h.c j r hj) hb
 d:=h.d
 f:=fun r hr c hc=>⟨(h.f r hr c hc).1,(h.f r hr c hc).2.below' (fun k=>hb.cell (p:=⟨c.g,k,none⟩) (tR w ⟨c.g,c.o,none⟩ (h.f r hr c hc).2.c0))⟩
 v:=fun r hr c hc=>(h.v r hr c hc).frame (fun g hg o=>hb.cell (p:=⟨g,o,none⟩) hg.2.1) (fun _ hg=>⟨hg.1,tV hg.2.1 hb.size,hg.2.2⟩)
 lc:=h.lc
theorem FS.cells(h:FS w T S M gO B0 B1 gR cR rows){j:Nat}{r:AE}(hj:rows[j]?=some r):Ge w r.v r.cs:=by
 have ho:=h.c j r hj;have hf:∀c∈r.cs,Ce w c.g c.o c.f c.u:=fun c hc=>(h.f r (tO hj) c hc).2;rcases ho.2 with⟨hv,h0⟩|⟨g,cap,cur,hv,hg,hh,hn,_⟩
 ·exact⟨none,0,by rw[hv,h0],by omega,Or.inl (tZ h0)⟩
 ·refine⟨some ⟨g,0,none⟩,cap,hv,by omega,Or.inr ⟨g,0,rfl,fun i c hc=>⟨fun k hk=>?_,hf c (tO hc)⟩⟩⟩
  rw[hv]at ho;have:=BS.cell (ok:=fun _ _=>True) (flat:=KX) ⟨ho,fun _ _=>trivial⟩ (fun _=>rfl) i c hc;obtain⟨g2,cap2,e2,hc2⟩:=this;have e3:=(Addr.mk.inj (tY (Value.slice.inj e2).1)).1;subst e3;rw[show 0+i*6+k=i*6+k by omega];have hlt:k<(KX c).length:=hk;rw[tN hlt];exact hc2 k _ (tN hlt)
theorem Ui(v':Value)(cs':List BR):∀(rows:List AE) (i:Nat) (r:AE),rows[i]?=some r->(rows.set i ⟨r.k,r.id,v',cs'⟩).flatMap (qL gO)=(rows.flatMap (qL gO)).set (i*3+2) v'
 |[],_,_,h=>by simp at h
 |x::l,0,r,h=>by
  simp at h;subst h;simp[qL]
 |x::l,i+1,r,h=>by
  rw[List.set_cons_succ,List.flatMap_cons,List.flatMap_cons,Ui v' cs' l i r (by simpa using h)];rw[show(i+1)*3+2=i*3+2+1+1+1 by omega];simp[qL]
theorem FS.push{x:World}{i g' cap':Nat}{r:AE}{c:BR}{o:Obj}(h:FS w T S M gO B0 B1 gR cR rows)(hi:rows[i]?=some r)(hg:(w.alloc o).grownBy x r.v.ownBlock)
 (hown:x.ownsRow B1 250 6 (.slice (some ⟨g',0,none⟩) (r.cs.length+1) cap') (r.cs.length+1) (r.cs.flatMap KX++KX c)) (hwh:r.v.ownBlock=some g'\/w.heap.size<=g')
 (hf:c.g<B0/\Ce w c.g c.o c.f c.u) (_hB:B0<=B1) (hv:AX w (fun k=>B1<=k/\k<w.heap.size/\∀r'∈rows,r'.v.ownBlock≠some k) 1603 c.c (pv (Dk c.t))) (hlc:c.c.ln<=c.c.lc):
 FS (x.setCell ⟨gR,i*3+2,none⟩ (.slice (some ⟨g',0,none⟩) (r.cs.length+1) cap')) T S M gO B0 B1 gR cR (rows.set i ⟨r.k,r.id,.slice (some ⟨g',0,none⟩) (r.cs.length+1) cap',r.cs++[c]⟩):=by
 have hsz:=hg.size;simp at hsz;have hrow:∀k,r.v.ownBlock=some k->B1<=k:=fun k hk=>LV (h.c i r hi) k hk;have hil:i<rows.length:=(tP.1 hi).1;have hb1:=h.b;have ht:=h.t;have hgR:=h.g;have low:∀k,k<w.heap.size->r.v.ownBlock≠some k->k≠gR->(x.setCell ⟨gR,i*3+2,none⟩ (.slice (some ⟨g',0,none⟩) (r.cs.length+1) cap')).heap[k]?=w.heap[k]?:=fun k hk h1 h2=>
  (tX _ _ _ _ h2).trans ((hg.block k (by simp;omega) (fun e=>h1 e.symm)).trans (AK _ _ _ hk))
 have hTR:T≠gR:=fun e=>by
  have:=Ep h.s.r h.s.b (by decide);exact this (by rw[e];rfl)
 obtain⟨D,hM,hPM⟩:=h.s.m;have hMb:M≠gR/\r.v.ownBlock≠some M:=by
  obtain⟨es,cl,hb,_⟩:=hM;constructor
  ·intro e
   rcases h.s.r.2 with⟨y,_⟩|⟨g,cap,cur,hv,_,hh,_⟩
   ·cases y
   ·have e1:=(Addr.mk.inj (tY (Value.slice.inj hv).1)).1
    rw[<-e1,<-e,hb]at hh;cases hh
  ·intro e
   rcases(h.c i r hi).2 with⟨y,_⟩|⟨g,cap,cur,hv,_,hh,_⟩
   ·rw[y]at e;cases e
   ·rw[hv]at e
    have e1:=tY (show some g=some M from e);rw[e1,hb]at hh;cases hh
 have hML:=hM.lt;have hg'R:g'≠gR:=fun e=>by
  rcases hwh with q|q
  ·have:=hrow g' q;omega
  ·omega
 have mem:∀r'∈rows.set i ⟨r.k,r.id,.slice (some ⟨g',0,none⟩) (r.cs.length+1) cap',r.cs++[c]⟩,r'=⟨r.k,r.id,.slice (some ⟨g',0,none⟩) (r.cs.length+1) cap',r.cs++[c]⟩\/∃j,j≠i/\rows[j]?=some r':=fun r' hr'=>by
  obtain⟨j,hj⟩:=List.getElem?_of_mem hr';by_cases e:i=j
  ·subst e;rw[List.getElem?_set_self hil]at hj;left;exact(tY hj).symm
  ·rw[List.getElem?_set_ne e]at hj;right;exact⟨j,fun e'=>e e'.symm,hj⟩
 have ids:(rows.set i ⟨r.k,r.id,.slice (some ⟨g',0,none⟩) (r.cs.length+1) cap',r.cs++[c]⟩).map AE.id=rows.map AE.id:=by
  rw[List.map_set];refine List.ext_getElem? (fun j=>?_);by_cases e:i=j
  ·subst e;rw[List.getElem?_set_self (by rw[uP];exact hil),uD,hi];rfl
  ·rw[List.getElem?_set_ne e]
 have hgB:B0<=gR:=LV h.s.r gR rfl;have newB:∀k,(B1<=k/\k<w.heap.size/\∀r'∈rows,r'.v.ownBlock≠some k)->g'≠k:=fun k hk e=>by
  rcases hwh with q|q
  ·exact hk.2.2 r (tO hi) (by rw[q,e])
  ·have:=hk.2.1;omega
 have yP:∀f t,AX w (fun k=>B1<=k/\k<w.heap.size/\∀r'∈rows,r'.v.ownBlock≠some k) 1603 f t->AX (x.setCell ⟨gR,i*3+2,none⟩ (.slice (some ⟨g',0,none⟩) (r.cs.length+1) cap')) (fun k=>B1<=k/\k<(x.setCell ⟨gR,i*3+2,none⟩ (.slice (some ⟨g',0,none⟩) (r.cs.length+1) cap')).heap.size/\∀r'∈rows.set i ⟨r.k,r.id,.slice (some ⟨g',0,none⟩) (r.cs.length+1) cap',r.cs++[c]⟩,r'.v.ownBlock≠some k) 1603 f t:=fun f t q=>by
  refine q.frame (fun k hk o=>World.cell?_of_block (a:=⟨k,o,none⟩) (low k hk.2.1 (hk.2.2 r (tO hi)) (by have:=hk.1;omega))) (fun k hk=>⟨hk.1,by have:=hk.2.1;simp[World.setCell];omega,fun r' hr'=>?_⟩);rcases mem r' hr' with e|⟨j,_,hj⟩
  ·rw[e];exact fun e'=>newB k hk (tY e')
  ·exact hk.2.2 r' (tO hj)
 have yU:∀c':BR,c'.g<B0/\Ce w c'.g c'.o c'.f c'.u->c'.g<B0/\Ce (x.setCell ⟨gR,i*3+2,none⟩ (.slice (some ⟨g',0,none⟩) (r.cs.length+1) cap')) c'.g c'.o c'.f c'.u:=fun c' q=>⟨q.1,q.2.below' (fun k=>World.cell?_of_block (a:=⟨c'.g,k,none⟩) (low c'.g (by have:=q.1;omega) (fun e=>by have:=hrow _ e;have:=q.1;omega) (by have:=q.1;omega)))⟩;refine⟨⟨?_,?_,⟨D,?_,by rw[ids];exact hPM⟩,by rw[ids];exact h.s.n,by rw[List.length_set];exact h.s.l⟩,ht,hgR,by simp[World.setCell];omega,?_,?_,?_,?_,?_⟩
 ·rw[List.length_set]
  exact(low T (Ab h.s.b) (fun e=>by have:=hrow T e;omega) hTR).trans h.s.b
 ·rw[List.length_set,Ui _ _ rows i r hi]
  refine Wo (RA h.s.r (fun k hk=>?_)) _;have e:=tY (show some gR=some k from hk);subst e;exact(hg.block gR (by simp;omega) (fun e=>by have:=hrow gR e.symm;omega)).trans (AK _ _ _ (by omega))
 ·rw[List.length_set]
  exact((hM.alloc o).kept hg (fun e=>hMb.2 e.symm)).kept (row:=some gR) ⟨rfl,rfl,rfl,by simp[World.setCell],fun k _ hk=>tX _ _ _ _ (fun e=>hk (by rw[show k=gR from e]))⟩ (fun e=>hMb.1 (tY e))
 ·intro j r' hj
  by_cases e:i=j
  ·subst e
   rw[List.getElem?_set_self hil]at hj;have e':=(tY hj).symm;subst e';rw[uE,List.flatMap_append];exact Di hown (fun e=>hg'R (tY e)) _ _
  ·rw[List.getElem?_set_ne e]at hj
   exact RA (h.c j r' hj) (fun k hk=>low k (KV (h.c j r' hj) k hk) (fun e'=>h.d j i r' r (fun x=>e x.symm) hj hi k hk e') (by have:=LV (h.c j r' hj) k hk;omega))
 ·intro a b ra rb hab ha hb k hk
  by_cases ea:i=a
  ·subst ea
   rw[List.getElem?_set_self hil]at ha;rw[List.getElem?_set_ne hab]at hb;have e':=(tY ha).symm;subst e';have e2:=tY (show some g'=some k from hk);subst e2;rcases hwh with q|q
   ·exact h.d i b r rb hab hi hb g' q
   ·intro e';have:=KV (h.c b rb hb) g' e';omega
  ·rw[List.getElem?_set_ne ea]at ha
   by_cases eb:i=b
   ·subst eb
    rw[List.getElem?_set_self hil]at hb;have e':=(tY hb).symm;subst e';intro e2;have e3:=tY (show some g'=some k from e2);subst e3;rcases hwh with q|q
    ·exact h.d a i ra r hab ha hi g' hk q
    ·have:=KV (h.c a ra ha) g' hk;omega
   ·rw[List.getElem?_set_ne eb]at hb
    exact h.d a b ra rb hab ha hb k hk
 ·intro r' hr' c' hc'
  rcases mem r' hr' with e|⟨j,_,hj⟩
  ·subst e
   rcases uZ.1 hc' with q|q
   ·exact yU c' (h.f r (tO hi) c' q)
   ·rw[List.mem_singleton]at q;subst q;exact yU _ hf
  ·exact yU c' (h.f r' (tO hj) c' hc')
 ·intro r' hr' c' hc'
  rcases mem r' hr' with e|⟨j,_,hj⟩
  ·subst e
   rcases uZ.1 hc' with q|q
   ·exact yP _ _ (h.v r (tO hi) c' q)
   ·rw[List.mem_singleton]at q;subst q;exact yP _ _ hv
  ·exact yP _ _ (h.v r' (tO hj) c' hc')
 ·intro r' hr' c' hc'
  rcases mem r' hr' with e|⟨j,_,hj⟩
  ·subst e
   rcases uZ.1 hc' with q|q
   ·exact h.lc r (tO hi) c' q
   ·rw[List.mem_singleton]at q;subst q;exact hlc
  ·exact h.lc r' (tO hj) c' hc'
end
end Go.Proofs.YtadneapobijejaaGreatDoor
