import Derived.Test.YtgbloieahmkcjaaGreatC33
import Derived.Test.YtgbloieahmkcjaaGreatC29
import Derived.Deep.RegionHeld3
import Derived.Deep.AppendLies
import Derived.Deep.DrawnRows
import Derived.Deep.RegionLaw
namespace Go.Proofs.YtgbloieahmkcjaaGreat
set_option maxHeartbeats 20000000
set_option maxRecDepth 100000
open Go.RowKit Tryz
def kA:Nat->RV->Prop
 |0,.mk sh _ s l=>sh<=6/\s.size<=4000/\l=[]
 |k+1,.mk sh _ s l=>sh<=6/\s.size<=4000/\l.length<=803/\∀r∈l,kA k r
theorem kA.one{k sh:Nat}{n:Int}{s:Ls}{l:List RV}(h:kA k (.mk sh n s l)):sh<=6/\s.size<=4000/\l.length<=803/\∀r∈l,kA (k-1) r:=by
 cases k with
 |zero=>have h':sh<=6/\s.size<=4000/\l=[]:=h;exact⟨h'.1,h'.2.1,by rw[h'.2.2];simp,fun r hr=>by rw[h'.2.2]at hr;simp at hr⟩
 |succ k=>exact h
def eD(R:Ls->Ls->Bool):dh->RV->Bool
 | .one c _,.mk sh n s _=>if sh=0\/sh=6 then true else if sh=5 then false else if sh=4 then R c s else kD (cW (sh,n,s)).1 c
 | .list t _,.mk sh n s l=>if sh=0\/sh=6 then true else if sh=5 then l.all (eD R t)else if sh=4 then R ⟨#[]⟩ s else kD (cW (sh,n,s)).1 ⟨#[]⟩
theorem xD(sh:Nat)(n:Int)(s:Ls)(l:List RV):pv (.mk sh n s l)=.mk (cW (sh,n,s)).1 (cW (sh,n,s)).2.1 (cW (sh,n,s)).2.2 (l.map pv):=by rw[pv,vK]
section
variable {w0:World} {T:Nat} {R:Ls->Ls->Bool}
def CT(w0:World)(T:Nat)(R:Ls->Ls->Bool)(ty:dh):Prop:=∀(W:World) (u:Value) (v:FV) (r:RV) (k m B:Nat),Lt w0 W->d9 W B u ty->bI W (fun g=>g<W.heap.size) k v (pv r)->kA m r->
 Calls prog 152 #[.pointer (some ⟨T,0,none⟩),bw v,u] W fun e w'=>e=.returned (.bool (eD R ty r))/\Lt W w'
theorem Ej{t:dh}(ih:CT w0 T R t)(W:World)(u:Value)(v:FV)(sh:Nat)(n:Int)(s:Ls)(l:List RV)(k m B:Nat)(hB:Lt w0 W)(ht:d9 W B u t)(hv:bI W (fun g=>g<W.heap.size) k v (.mk sh n s (l.map pv)))(hl:l.length<=803)(ho:∀r∈l,kA m r):
 Calls prog 185 #[.pointer (some ⟨T,0,none⟩),.slice v.la v.ln v.lc,u] W fun e w'=>e=.returned (.bool (l.all (eD R t)))/\Lt W w':=by
 obtain⟨ku,rfl⟩:=ht.ptr;obtain⟨vsh,vn,vs,vla,vln,vlc⟩:=v;obtain⟨e1,e2,e3,e4⟩:=hv.parts;simp only[Ll]at e1 e2 e3 e4⊢;subst e4;have HV:=aa hv;have HT:=aa ht;have HO:=aa ho;obtain⟨q,HQ⟩:∃q,Hi (q=l.all (eD R t)):=⟨_,aa rfl⟩;rw[<-HQ.o];clear hv ht ho e1 e2 e3;go_enter func185,ntmps185;go_wp2_with fail;go_loopg [8,11] l.length (fun m v8 v11 wr=>∃i:Nat,v11=.int .i64 i/\i<=l.length/\l.length-i<=m/\Lt W wr/\q=(l.drop i).all (eD R t))
 case atStart=>exact⟨0,rfl,KU _,KK _,KL _ _,HQ.o⟩
 case round=>
  obtain⟨i,rfl,hil,hm,hb,hq⟩:=hrel;have HB:=aa hb;have HQI:=aa hq;clear hb hq;by_cases hlt:i<l.length
  ·have hx:=KM hlt
   generalize l[i]=r at hx;have HQN:=aa (show q=(eD R t r&&(l.drop (i+1)).all (eD R t))from by rw[HQI.o,ow hx];rfl);obtain⟨k',g,f,e,hg,c0,c1,c2,c3,hvf⟩:=HV.o.elem (show(l.map pv)[i]?=some (pv r)by rw[La,hx];rfl);simp only at e;subst e;have hgw:g<wr.heap.size:=KV hg HB.o.size;have c0:=ao HB.o c0;have c1:=ao HB.o c1;have c2:=ao HB.o c2;have c3:=ao HB.o c3;have HF:=aa (fun X (hX:Lt wr X)=>ih X (.pointer (some ⟨ku,0,none⟩)) f r k' m B (bT (bT hB HB.o) hX) (HT.o.stays (au.of_below (bT HB.o hX))) (hvf.frame (fun g hg o=>(bT HB.o hX).cell (p:=⟨g,o,none⟩) hg) (fun g hg=>KV hg (bT HB.o hX).size)) (HO.o r (KN hx)));unfold bw at HF;generalize eD R t r=qr at*;clear hx hvf hg;cases qr
   ·have HF0:=aa (show q=false from HQN.o)
    go_wp2_with fail;refine(HF.o _ (bA (KL _ _) _)).mono ?_;rintro _ w1 ⟨rfl,b1⟩;go_wp2_with fail;go_ret;exact⟨am HF0.o.symm,bT (bA HB.o _) b1⟩
   ·go_wp2_with fail
    refine(HF.o _ (bA (KL _ _) _)).mono ?_;rintro _ w1 ⟨rfl,b1⟩;have B1:=aa (bT (bA HB.o _) b1);clear b1;go_wp2_with fail;go_roundg (l.length-(i+1))
    case measure=>omega
    case rel=>exact⟨i+1,by go_num,by omega,KK _,B1.o,HQN.o⟩
  ·have hie:i=l.length:=by omega
   subst hie;have HT1:=aa (show q=true from by rw[HQI.o,List.drop_length];rfl);go_wp2_with fail;go_ret;exact⟨am HT1.o.symm,HB.o⟩
end
section
variable {w0:World} {T:Nat} {R:Ls->Ls->Bool}
def xv(w0:World)(T:Nat)(R:Ls->Ls->Bool):Prop:=∀W,Lt w0 W->∀id c:Ls,id.size<=maxLen->Calls prog 186 #[.pointer (some ⟨T,0,none⟩),.string id,.string c] W fun e w'=>e=.returned (.bool (R c id))/\Lt W w'
theorem Ca(hM:xv w0 T R)(W:World)(hB:Lt w0 W)(ku kt:Nat)(nm:Ls)(ui:Value)(st:Bool)(hty:W.heap[ku]?=some (.cells #[.string nm,.int .i64 kt,ui,.bool st] 257 (0,0)))(v:FV)(hs:v.s.size<=maxLen)(hK:v.sh=7->kt=0):
 Calls prog 152 #[.pointer (some ⟨T,0,none⟩),bw v,.pointer (some ⟨ku,0,none⟩)] W fun e w'=>e=.returned (.bool (if v.sh=0\/v.sh=8 then true else if v.sh=7 then false else if v.sh=6 then R nm v.s else kD v.sh nm))/\Lt W w':=by
 obtain⟨vsh,vn,vs,vla,vln,vlc⟩:=v;simp only[bw]at hs hK⊢;have hlk:=ag hty;have ct:=ae hty;by_cases h0:vsh=0\/vsh=8
 ·rw[K9 h0]
  rcases h0 with e|e;all_goals(
   subst e;go_enter func152,ntmps152;go_wp2_with fail;go_ret;exact⟨rfl,bA (KL _ _) _⟩)
 rw[K8 h0];have a0:((vsh:Int)==0)=false:=by rw[beq_eq_false_iff_ne];omega
 have a8:((vsh:Int)==8)=false:=by rw[beq_eq_false_iff_ne];omega
 clear h0;by_cases h7:vsh=7
 ·rw[K9 h7]
  have e:=hK h7;subst h7 e;clear a0 a8 hK;go_enter func152,ntmps152;go_wp2_with fail;go_quiet (fail);go_wp2_with fail;go_ret;exact⟨rfl,below_drewN (bA (KL _ _) _) _⟩
 rw[K8 h7];have a7:((vsh:Int)==7)=false:=by rw[beq_eq_false_iff_ne];omega
 clear h7 hK;by_cases h6:vsh=6
 ·rw[K9 h6]
  subst h6;have HM:=aa (fun X (hX:Lt W X)=>hM X (bT hB hX) vs nm hs);generalize R nm vs=q at*;clear a0 a8 a7;go_enter func152,ntmps152;go_wp2_with fail;have hN:=KS W (.cells #[.int .i64 6,.int .i64 vn,.string vs,.slice vla vln vlc] 171);have hb:=bA (KL W.heap.size W) (.cells #[.int .i64 6,.int .i64 vn,.string vs,.slice vla vln vlc] 171);generalize W.alloc (.cells #[.int .i64 6,.int .i64 vn,.string vs,.slice vla vln vlc] 171)=W1 at*;have cN:=ae hN;have hlN:=ag hN;have HB1:=aa hb;have HS:=aa (fun V (hV:Lt W1 V)=>And.intro hV (And.intro (fun k=>(hV.cell (p:=⟨W.heap.size,k,none⟩) hlN).trans (cN k)) (fun k=>((bT hb hV).cell (p:=⟨ku,k,none⟩) hlk).trans (ct k))));clear hN hb cN ct;go_region_held3 (fun V=>Lt W1 V/\(∀k,V.cell? ⟨W.heap.size,k,none⟩=(#[.int .i64 6,.int .i64 vn,.string vs,.slice vla vln vlc]:Array Value)[k]?)/\(∀k,V.cell? ⟨ku,k,none⟩=(#[.string nm,.int .i64 kt,ui,.bool st]:Array Value)[k]?))
   (first|exact HS.o _ (KL _ _).drew|exact HS.o _ (bT bh b2))
   (first|(go_at_call 186;obtain⟨bh, -⟩:= ‹Lt W1 _/\_›;refine(HM.o _ (bT HB1.o bh)).mono ?_;rintro _ w2 ⟨rfl,b2⟩))
  all_goals(obtain⟨bh, -⟩:= ‹Lt W1 _/\_›;(try go_wp2_with fail);go_ret;exact⟨rfl,bT HB1.o bh⟩)
 ·rw[K8 h6]
  have a6:((vsh:Int)==6)=false:=by rw[beq_eq_false_iff_ne];omega
  have HI:=aa (fun X=>DL X vsh vn vs nm);generalize kD vsh nm=q at*;clear h6;go_enter func152,ntmps152;go_wp2_with fail;have hN:=KS W (.cells #[.int .i64 vsh,.int .i64 vn,.string vs,.slice vla vln vlc] 171);have hb:=bA (KL W.heap.size W) (.cells #[.int .i64 vsh,.int .i64 vn,.string vs,.slice vla vln vlc] 171);generalize W.alloc (.cells #[.int .i64 vsh,.int .i64 vn,.string vs,.slice vla vln vlc] 171)=W1 at*;have cN:=ae hN;have hlN:=ag hN;have HB1:=aa hb;have HS:=aa (fun V (hV:Lt W1 V)=>And.intro hV (And.intro (fun k=>(hV.cell (p:=⟨W.heap.size,k,none⟩) hlN).trans (cN k)) (fun k=>((bT hb hV).cell (p:=⟨ku,k,none⟩) hlk).trans (ct k))));clear hN hb cN ct;go_region_held3 (fun V=>Lt W1 V/\(∀k,V.cell? ⟨W.heap.size,k,none⟩=(#[.int .i64 vsh,.int .i64 vn,.string vs,.slice vla vln vlc]:Array Value)[k]?)/\(∀k,V.cell? ⟨ku,k,none⟩=(#[.string nm,.int .i64 kt,ui,.bool st]:Array Value)[k]?))
   (first|exact HS.o _ (KL _ _).drew|exact HS.o _ (bT bh b2))
   (first|(go_at_call 187;obtain⟨bh, -⟩:= ‹Lt W1 _/\_›;refine(HI.o _).mono ?_;rintro _ w2 ⟨rfl,b2⟩))
  all_goals(obtain⟨bh, -⟩:= ‹Lt W1 _/\_›;(try go_wp2_with fail);go_ret;exact⟨rfl,bT HB1.o bh⟩)
theorem zr{sh:Nat}(h:sh<=6)(n:Int)(s:Ls):((cW (sh,n,s)).1=0↔sh=0)/\((cW (sh,n,s)).1=8↔sh=6)/\((cW (sh,n,s)).1=7↔sh=5)/\((cW (sh,n,s)).1=6↔sh=4)/\(cW (sh,n,s)).2.2.size<=s.size/\(sh=4->(cW (sh,n,s)).2.2=s):=by
 unfold cW;dsimp only;split
 ·rename_i h3
  have h3:sh=3:=h3;subst h3;split<;>exact⟨by simp,by simp,by simp,by simp,KU _,fun e=>by omega⟩
 ·split
  ·simp;omega
  ·split
   ·simp;omega
   ·split
    ·simp;omega
    ·simp;omega
theorem FY(hM:xv w0 T R):∀ty:dh,CT w0 T R ty:=by
 intro ty
 induction ty with
 |one c st=>
  intro W u v r k m B hB ht hv ho;obtain⟨sh,n,s,l⟩:=r;obtain⟨o1,o2,_,_⟩:=ho.one;rw[xD]at hv;obtain⟨e1,_,e3,_⟩:=hv.parts;obtain⟨k0,k8,k7,k6,ks,k4⟩:=zr o1 n s;obtain⟨ku,rfl,_,hb⟩:=ht;refine(Ca hM W hB ku 0 c (.pointer none) st hb v (by rw[e3];unfold maxLen;omega) (fun _=>rfl)).mono ?_;rintro _ w' ⟨rfl,b1⟩;refine⟨am ?_,b1⟩;rw[e1,e3];show _=eD R (.one c st) (.mk sh n s l);rw[eD];simp only[k0,k8,k7,k6];split
  ·rfl
  ·split
   ·rfl
   ·split
    ·rename_i h;rw[k4 h]
    ·rfl
 |list t st ih=>
  intro W u v r k m B hB ht hv ho;obtain⟨sh,n,s,l⟩:=r;obtain⟨o1,o2,o3,o4⟩:=ho.one;rw[xD]at hv;obtain⟨e1,e2,e3,e4⟩:=hv.parts;obtain⟨k0,k8,k7,k6,ks,k4⟩:=zr o1 n s;obtain⟨ku,ui,rfl,_,hb,hti⟩:=ht;by_cases h5:sh=5
  ·subst h5
   have HA:=aa (fun X (hX:Lt W X)=>Ej ih X ui v _ _ _ l k (m-1) B (bT hB hX) (hti.stays (au.of_below hX)) (hv.frame (fun g hg o=>hX.cell (p:=⟨g,o,none⟩) hg) (fun g hg=>KV hg hX.size)) o3 o4);obtain⟨ki,rfl⟩:=hti.ptr;rw[show eD R (.list t st) (.mk 5 n s l)=l.all (eD R t)from by rw[eD];simp];generalize l.all (eD R t)=q at*;obtain⟨vsh,vn,vs,vla,vln,vlc⟩:=v;simp only[bw]at e1 HA⊢;rw[show vsh=7 from e1];have hlk:=ag hb;have ct:=ae hb;clear hv ho o4 e2 e3 e4 k4 ks k0 k8 k7 k6 e1 hti;go_enter func152,ntmps152;go_wp2_with fail;have hN:=KS W (.cells #[.int .i64 7,.int .i64 vn,.string vs,.slice vla vln vlc] 171);have hb1:=bA (KL W.heap.size W) (.cells #[.int .i64 7,.int .i64 vn,.string vs,.slice vla vln vlc] 171);generalize W.alloc (.cells #[.int .i64 7,.int .i64 vn,.string vs,.slice vla vln vlc] 171)=W1 at*;have cN:=ae hN;have hlN:=ag hN;have HB1:=aa hb1;have HS:=aa (fun V (hV:Lt W1 V)=>And.intro hV (And.intro (fun k=>(hV.cell (p:=⟨W.heap.size,k,none⟩) hlN).trans (cN k)) (fun k=>((bT hb1 hV).cell (p:=⟨ku,k,none⟩) hlk).trans (ct k))));clear hN hb1 cN ct hb;go_region_held3 (fun V=>Lt W1 V/\(∀k,V.cell? ⟨W.heap.size,k,none⟩=(#[.int .i64 7,.int .i64 vn,.string vs,.slice vla vln vlc]:Array Value)[k]?)/\(∀k,V.cell? ⟨ku,k,none⟩=(#[.string ⟨#[]⟩,.int .i64 1,.pointer (some ⟨ki,0,none⟩),.bool st]:Array Value)[k]?))
    (first|exact HS.o _ (KL _ _).drew|exact HS.o _ (bT bh b2))
    (first|(go_at_call 185;obtain⟨bh, -⟩:= ‹Lt W1 _/\_›;refine(HA.o _ (bT HB1.o bh)).mono ?_;rintro _ w2 ⟨rfl,b2⟩))
   all_goals(obtain⟨bh, -⟩:= ‹Lt W1 _/\_›;(try go_wp2_with fail);go_ret;exact⟨rfl,bT HB1.o bh⟩)
  ·refine(Ca hM W hB ku 1 ⟨#[]⟩ ui st hb v (by rw[e3];unfold maxLen;omega) (fun e=>absurd (k7.1 (e1.symm.trans e)) h5)).mono ?_
   rintro _ w' ⟨rfl,b1⟩;refine⟨am ?_,b1⟩;rw[e1,e3];show _=eD R (.list t st) (.mk sh n s l);rw[eD];simp only[k0,k8,k7,k6,K8 h5];split
   ·rfl
   ·split
    ·rename_i h;rw[k4 h]
    ·rfl
end
open Go.Maps Tryz
open Go.ChangeMaps Tryz
theorem Kc{a b c:Value}(h1:a.oneCell'=true)(h2:b.oneCell'=true)(h3:c.oneCell'=true):∀u∈[a,b,c],u.oneCell'=true:=by
 intro u hu;simp at hu;rcases hu with rfl|rfl|rfl<;>assumption
def nH(Lx:List Ls)(rows:List bD)(ty id:Ls):Bool:=decide (0<=ah Lx ty)&&(decide (ah (rows.map bD.id) id<0)&&nt ty id)
theorem info107:(prog.info? 107).map (fun i=>(i.zero,i.size,i.bytes))=some (some (.agg #[.pointer none,.string ⟨#[]⟩,.slice none 0 0]),3,48):=by kernel_rfl
theorem FO(ty id:Ls):nt ty id=((ty.toList==[81,117,101,114,121])==(id.toList==[])):=by
 unfold nt;rw[bV ty,bV id];rfl
section
variable {w0:World} {S:Nat} {vR vO vI vU vN:Value} {LR:List (aj×Value)} {LO:List lF} {LI:List (bC×Value)} {LU:List (bB×Value)} {names:List Ls} {T M gO:Nat} {vL:Value} {rows:List bD}
theorem ER(h:SV w0 S vR vO vI vU vN LR LO LI LU names)(hg:∃c,vO=.slice (some ⟨gO,0,none⟩) LO.length c)(W:World)(hB:Lt w0 W)(hT:jO W T S M gO w0.heap.size vL rows)(hTb:w0.heap.size<=T)(hMb:w0.heap.size<=M)(ty id:Ls)(aC:Option Addr)(nC cC:Nat)(hid:id.size<=2000000)(hrl:rows.length<=200):
 Calls prog 111 #[.pointer (some ⟨T,0,none⟩),.agg #[.string ty,.string id,.slice aC nC cC]] W fun e w'=>e=.returned (.bool (nH (LO.map oN) rows ty id))/\Lt w0 w'/\(nH (LO.map oN) rows ty id=true->∃vL',jO w' T S M gO w0.heap.size vL' (rows++[⟨(ah (LO.map oN) ty).toNat,id,.slice none 0 0,[]⟩])):=by
 obtain⟨iR,hiR,zR0,zR1,zR2⟩:=info_parts info107;obtain⟨aL,cL,hvL⟩:=bc hT.r;subst hvL;have hlT:=ag hT.b;have cT:=ae hT.b;have HQ:=aa (nH.eq_1 (LO.map oN) rows ty id);rw[FO]at HQ;have HO:=aa (fun X (hX:Lt W X)=>wn X S vR vO vI vU vN LR LO LI LU names ty (h.below (bT hB hX)));have HRW:=aa (fun X (hX:Lt W X)=>AZ (hT.below hX) id (by unfold maxLen;omega));have hnil:=mJ h.rowObject ty;have HTT:=aa hT;have HB:=aa hB;have HID:=aa (vk id (by unfold maxLen;omega));obtain⟨c0,hv0⟩:=hg;have HPO:=aa (show¬ah (LO.map oN) ty<0->bx vO 4 (ah (LO.map oN) ty)=.pointer (some ⟨gO,(ah (LO.map oN) ty).toNat*4,none⟩)from fun e=>by rw[hv0];unfold bx;rw[K8 e]);have HNIL:=aa hnil.1;clear h hT hnil hv0 hB;generalize nH (LO.map oN) rows ty id=q at*;generalize bx vO 4 (ah (LO.map oN) ty)=po at*;generalize ah (LO.map oN) ty=ko at*;go_enter func111,ntmps111;go_upto_region 1 with fail;have hN:=KS W (.cells #[.string ty,.string id,.slice aC nC cC] 37);have hb:=bA (KL W.heap.size W) (.cells #[.string ty,.string id,.slice aC nC cC] 37);generalize W.alloc (.cells #[.string ty,.string id,.slice aC nC cC] 37)=W1 at*;have cN:=ae hN;have hlN:=ag hN;have HN:=aa hN;have HB1:=aa hb;have HS:=aa (fun V (hV:Lt W1 V)=>And.intro hV (And.intro (fun k=>(hV.cell (p:=⟨W.heap.size,k,none⟩) hlN).trans (cN k)) (fun k=>((bT hb hV).cell (p:=⟨T,k,none⟩) hlT).trans (cT k))));clear hN hb cN cT;go_cut [5] (fun v5 wc=>v5=po/\Lt W1 wc)
 case first=>
  go_region_held3 (fun V=>Lt W1 V/\(∀k,V.cell? ⟨W.heap.size,k,none⟩=(#[.string ty,.string id,.slice aC nC cC]:Array Value)[k]?)/\(∀k,V.cell? ⟨T,k,none⟩=(#[.slice aL rows.length cL,.pointer (some ⟨S,0,none⟩),.map (some M)]:Array Value)[k]?))
   (first|exact HS.o _ (KL _ _).drew|exact HS.o _ (bT bh b2))
   (first|(go_at_call 105;obtain⟨bh, -⟩:= ‹Lt W1 _/\_›;refine(HO.o _ (bT HB1.o bh)).mono ?_;rintro _ w2 ⟨rfl,b2⟩))
  all_goals(obtain⟨bh, -⟩:= ‹Lt W1 _/\_›;(try go_wp2_with fail);go_meet;exact⟨rfl,bh⟩)
 case rest=>
  obtain⟨rfl,hb2⟩:=hcut;obtain⟨_,cN,cT⟩:=HS.o _ hb2;have HB2:=aa (bT HB1.o hb2);clear hb2 HS HO;by_cases hk:ko<0
  ·have e:=HNIL.o hk
   subst e;have HF:=aa (show q=false from by rw[HQ.o,KT (by omega)];rfl);clear HQ;go_wp2_with fail;go_ret;exact⟨am HF.o.symm,bT HB.o HB2.o,fun e=>by rw[HF.o]at e;cases e⟩
  have e:=HPO.o hk;subst e;rw[Le (show 0<=ko by omega)]at HQ;have HQ:=aa (show q=(decide (ah (rows.map bD.id) id<0)&&((ty.toList==[81,117,101,114,121])==(id.toList==[])))from HQ.o);clear HNIL HPO;by_cases hr:ah (rows.map bD.id) id<0
  rotate_left
  ·obtain⟨j,r,hj,hrr,_,hjl⟩:=iW bD.id rows id hr
   obtain⟨gR,cap,e,_,_,_⟩:=HTT.o.at hrr;rw[e,hj]at HRW;rw[show bx (.slice (some ⟨gR,0,none⟩) rows.length cap) 3 (j:Int)=.pointer (some ⟨gR,j*3,none⟩)from by unfold bx;rw[K8 (by omega)];rfl]at HRW;have HF:=aa (show q=false from by rw[HQ.o,KT hr];rfl);clear HQ hj hrr e;go_wp2_with fail;refine(HRW.o _ HB2.o).mono ?_;rintro _ w' ⟨rfl,hw'⟩;have hw':=hw'.symm;subst hw';go_wp2_with fail;go_ret;exact⟨am HF.o.symm,bT HB.o HB2.o,fun e=>by rw[HF.o]at e;cases e⟩
  rw[Le hr]at HQ;have HQ:=aa (show q=((ty.toList==[81,117,101,114,121])==(id.toList==[]))from HQ.o);rw[show bx (.slice aL rows.length cL) 3 (ah (rows.map bD.id) id)=.pointer none from by unfold bx;rw[K9 hr]]at HRW;have HNI:=aa (show id∉rows.map bD.id from fun e=>by have:=un _ _ e;omega);clear hr;have RF:=aa (show∀X,Lt W X->q=false->Lt w0 X/\(q=true->∃vL',jO X T S M gO w0.heap.size vL' (rows++[⟨ko.toNat,id,.slice none 0 0,[]⟩]))from fun X hX e=>⟨bT HB.o hX,fun e'=>by rw[e]at e';cases e'⟩);cases b1:(id.toList==[])<;>cases b2:(ty.toList==[81,117,101,114,121])<;>rw[b1,b2]at HQ
  case false.true=>
   have HF:=aa (show q=false from HQ.o);go_wp2_with fail;refine(HRW.o _ HB2.o).mono ?_;rintro _ w' ⟨rfl,hw'⟩;have hw':=hw'.symm;subst hw';go_wp2_with fail;go_ret;exact⟨am HF.o.symm,RF.o _ HB2.o HF.o⟩
  case true.false=>
   have HF:=aa (show q=false from HQ.o);go_wp2_with fail;refine(HRW.o _ HB2.o).mono ?_;rintro _ w' ⟨rfl,hw'⟩;have hw':=hw'.symm;subst hw';go_wp2_with fail;go_ret;exact⟨am HF.o.symm,RF.o _ HB2.o HF.o⟩
  all_goals(
   have HTR:=aa (show q=true from HQ.o);clear RF HQ;go_wp2_with fail;refine(HRW.o _ HB2.o).mono ?_;rintro _ w' ⟨rfl,hw'⟩;have hw':=hw'.symm;subst hw';go_wp2_with fail;refine(uM id _ hid).mono ?_;rintro _ W3 ⟨rfl,b3⟩;have hB3:=bT HB2.o b3;have T3:=HTT.o.below hB3;obtain⟨D,LJ,hpm⟩:=T3.m;have hwf:(Lit.int .i64 (rows.length:Int)).wf=true:=by simp[Lit.wf,IntKind.min,IntKind.max,IntKind.bits,IntKind.signed];omega
   obtain⟨W4,Oc,L8,M6⟩:=LJ.drew.update jn underlying72 (by unfold maxLen;omega) HID.o (plainElem_int (H:=Unit) underlying3 hwf);have HPM:=aa (hpm.snoc id);rw[Ll]at HPM;have hTM:T≠M:=fun e=>by
    obtain⟨es,cl,hb,_⟩:=LJ;have:=T3.b;rw[e,hb]at this;cases this
   have HT4:=aa ((M6.block T (ag T3.b) (fun e=>hTM (KY e))).trans T3.b);have cT3:=ae T3.b;have hlT3:=ag T3.b;have hrM:∀k,(Value.slice aL rows.length cL).ownBlock=some k->k≠M:=fun k hk e=>by
    rcases T3.r.2 with⟨y,_⟩|⟨g,cap,cur,hv,_,hh,_⟩
    ·rw[y]at hk;cases hk
    ·rw[hv]at hk
     have e1:=KY (show some g=some k from hk);obtain⟨es,cl,hb,_⟩:=LJ;rw[e1,e,hb]at hh;cases hh
   have HR4:=aa (show W4.ownsRow w0.heap.size 107 3 (.slice aL rows.length cL) rows.length (rows.flatMap (qL gO))from kQ T3.r (fun k hk=>M6.block k (ep T3.r k hk) (fun e=>hrM k hk (KY e))));have HO4:=aa L8;have HG4:=aa M6;have HB3:=aa hB3;have NE:Option.some T≠(Value.slice aL rows.length cL).ownBlock:=jP HR4.o HT4.o (by decide);have hneM:Option.some M≠(Value.slice aL rows.length cL).ownBlock:=fun e=>hrM M e.symm rfl;have HND:=aa T3.n;have hz4:=M6.size;clear b3 hB3 hpm LJ L8 M6 cN cT hrM T3;go_wp2_with fail;go_region;all_goals(
    clear Oc cT3;have cT4:=ae HT4.o;have hlT4:=ag HT4.o;go_wp2_with (at_builtin;refine wpList_append_lies _ rfl _ _ 71 rfl w0.heap.size 107 iR _ 3 48 underlying71 hiR zR0 zR1 zR2 rfl (by decide) _ _ _ rfl (HR4.o.alloc _) ⟨W4.heap.size,0,none⟩ 1 1 [.pointer (some ⟨gO,ko.toNat*4,none⟩),.string id,.slice none 0 0] rfl rfl (de _ _ _ _ (by simp)) (Kc rfl rfl rfl) (by decide) (by unfold maxLen;omega) (by omega) (by simp;omega) (W4.heap.size+1) (by simp) ?_;intro g' LM x3 hown' hgrow hwh hgs;have hX5:=(hgrow.block T (by simp;omega) NE).trans ((bp _ _ _ hlT4).trans HT4.o);have hc5:=ae hX5;have hf5:=ar hX5;have hl5:=ag hX5;have HX5:=aa hX5;have Mq:=aa hown';have LT:=aa hgrow;clear hX5 hown' hgrow);go_ret;refine⟨am HTR.o.symm,?_,fun _=>⟨.slice (some ⟨g',0,none⟩) (rows.length+1) LM,?_⟩⟩
    ·have hb4:=bT HB.o HB3.o
     have hgz:=LT.o.size;simp at hgz;refine⟨LT.o.os.trans (HG4.o.os.trans hb4.os),LT.o.tape.trans (HG4.o.tape.trans hb4.tape),LT.o.output.trans (HG4.o.output.trans hb4.output),by have:=hb4.size;have:W3.heap.size<=W4.heap.size:=hz4;simp[World.setCell];omega,fun k hk=>?_⟩;have h3:W3.heap.size<=W4.heap.size:=hz4;have h4:=hb4.size;exact(KX _ _ _ _ (show k≠T by omega)).trans ((LT.o.block k (by simp;omega) (xn HR4.o hk)).trans ((bp _ _ _ (by omega)).trans ((HG4.o.block k (show k<W3.heap.size by omega) (fun e=>by have:=KY e;omega)).trans (hb4.block k hk))))
    ·have hgT:(Value.slice (some ⟨g',0,none⟩) (rows.length+1) LM).ownBlock≠some T:=fun e=>jP Mq.o HX5.o (by decide) e.symm
     refine⟨aJ HX5.o 0 _,?_,⟨_,?_,by rw[Lr];exact HPM.o⟩,by rw[Lr,List.map_cons,List.map_nil,tK];exact⟨HND.o,HNI.o⟩,by simp;omega⟩
     ·rw[Lb,List.flatMap_append]
      exact qH Mq.o hgT 0 _
     ·rw[Lb]
      exact((HO4.o.alloc _).kept LT.o hneM).kept (row:=some T) ⟨rfl,rfl,rfl,by simp[World.setCell],fun i _ hi=>KX _ _ _ _ (fun e=>hi (by rw[show i=T from e]))⟩ (fun e=>hTM (KY e).symm)))
end
def qz(Lx:List Ls)(y:bo):bD:=⟨(ah Lx y.1).toNat,y.2.1,.slice none 0 0,[]⟩
def ke(Lx:List Ls):List bD->List bo->Bool
 |_,[]=>true
 |acc,y::ys=>nH Lx acc y.1 y.2.1&&ke Lx (acc++[qz Lx y]) ys
section
variable {w0:World} {S:Nat} {vR vO vI vU vN:Value} {LR:List (aj×Value)} {LO:List lF} {LI:List (bC×Value)} {LU:List (bB×Value)} {names:List Ls} {T M gO:Nat} {vL:Value}
theorem GC(h:SV w0 S vR vO vI vU vN LR LO LI LU names)(hg:∃c,vO=.slice (some ⟨gO,0,none⟩) LO.length c)(W:World)(hB:Lt w0 W)(hT:jO W T S M gO w0.heap.size vL [])(hTb:w0.heap.size<=T)(hMb:w0.heap.size<=M)(aY:Option Addr)(cY:Nat)(ys:List bo)(hY:eM w0 (.slice aY ys.length cY) ys)(hyl:ys.length<=200)(hid:∀y∈ys,y.2.1.size<=2000000):
 Calls prog 78 #[.pointer (some ⟨T,0,none⟩),.slice aY ys.length cY] W fun e w'=>e=.returned (.bool (ke (LO.map oN) [] ys))/\Lt w0 w'/\(ke (LO.map oN) [] ys=true->∃vL',jO w' T S M gO w0.heap.size vL' (ys.map (qz (LO.map oN)))):=by
 have HA:=aa (fun X (hX:Lt w0 X) vL' rows (hT':jO X T S M gO w0.heap.size vL' rows) ty id aC nC cC=>ER h hg X hX hT' hTb hMb ty id aC nC cC);have HY:=aa hY;have HT:=aa hT;have HB:=aa hB;obtain⟨q,HQ⟩:∃q,Hi (q=ke (LO.map oN) [] ys):=⟨_,aa rfl⟩;rw[<-HQ.o];clear h hg hT hB hY;generalize LO.map oN=Lx at*;go_enter func78,ntmps78;go_wp2_with fail;go_loopg [6,9] ys.length (fun m v6 v9 wr=>∃(i:Nat) (vL':Value),v9=.int .i64 i/\i<=ys.length/\ys.length-i<=m/\Lt w0 wr/\jO wr T S M gO w0.heap.size vL' ((ys.take i).map (qz Lx))/\q=ke Lx ((ys.take i).map (qz Lx)) (ys.drop i))
 case atStart=>exact⟨0,vL,rfl,KU _,KK _,HB.o,HT.o,HQ.o⟩
 case round=>
  obtain⟨i,vL',rfl,hil,hm,hb,ht,hq⟩:=hrel;have HBR:=aa hb;have HTR:=aa ht;have HQI:=aa hq;clear hb ht hq;by_cases hlt:i<ys.length
  ·have hx:=KM hlt
   generalize ys[i]=y at hx;obtain⟨gY,oY,aC,cC,e,y0,y1,y2,_⟩:=(HY.o.below HBR.o).at hx;subst e;have hgY:gY<wr.heap.size:=KQ wr _ y0;have HQN:=aa (show q=(nH Lx ((ys.take i).map (qz Lx)) y.1 y.2.1&&ke Lx ((ys.take i).map (qz Lx)++[qz Lx y]) (ys.drop (i+1)))from by rw[HQI.o,ow hx];rfl);have HTK:=aa (show(ys.take (i+1)).map (qz Lx)=(ys.take i).map (qz Lx)++[qz Lx y]from by rw[Ld,hx,Lr];rfl);have HC:=aa (fun X (hX:Lt wr X)=>HA.o X (bT HBR.o hX) vL' _ (HTR.o.below hX) y.1 y.2.1 aC y.2.2.length cC (hid y (KN hx)) (by simp;omega));obtain⟨qa,HQA⟩:∃qa,Hi (nH Lx ((ys.take i).map (qz Lx)) y.1 y.2.1=qa):=⟨_,aa rfl⟩;rw[HQA.o]at HQN HC;clear hx HA;go_wp2_with fail;refine(HC.o _ (bA (KL _ _) _)).mono ?_;rintro _ w1 ⟨rfl,b1,ht1⟩;cases qa
   ·have HF:=aa (show q=false from HQN.o)
    go_wp2_with fail;go_ret;exact⟨am HF.o.symm,b1,fun e=>by rw[HF.o]at e;cases e⟩
   ·obtain⟨vL2,h2⟩:=ht1 rfl
    have HT2:=aa h2;have HB2:=aa b1;clear h2 b1 ht1;go_wp2_with fail;go_roundg (ys.length-(i+1))
    case measure=>omega
    case rel=>exact⟨i+1,vL2,by go_num,by omega,KK _,HB2.o,by rw[HTK.o];exact HT2.o,by rw[HTK.o];exact HQN.o⟩
  ·have hie:i=ys.length:=by omega
   subst hie;have HT1:=aa (show q=true from by rw[HQI.o,List.drop_length];rfl);go_wp2_with fail;go_ret;exact⟨am HT1.o.symm,HBR.o,fun _=>⟨vL',by rw[<-List.take_length (l:=ys)];exact HTR.o⟩⟩
end
attribute [local go_sem ↓] Go.wp_at_zero Go.wp_at_succ
structure FS(w:World)(T S M gO B0 B1 gR cR:Nat)(rows:List bD):Prop where
 s:jO w T S M gO B0 (.slice (some ⟨gR,0,none⟩) rows.length cR) rows
 t:T<B1
 g:gR<B1
 b:B1<=w.heap.size
 c:∀(j:Nat) (r:bD),rows[j]?=some r->w.ownsRow B1 173 6 r.v r.cs.length (r.cs.flatMap o8)
 d:∀(i j:Nat) (r r':bD),i≠j->rows[i]?=some r->rows[j]?=some r'->∀k,r.v.ownBlock=some k->r'.v.ownBlock≠some k
 f:∀r∈rows,∀c∈r.cs,c.g<B0/\fc w c.g c.o c.f c.u
 v:∀r∈rows,∀c∈r.cs,bI w (fun k=>B1<=k/\k<w.heap.size/\∀r'∈rows,r'.v.ownBlock≠some k) 1603 c.c (pv (du c.t))
theorem fc.below'{w w':World}{g o:Nat}{f:ax}{u:Value}(h:fc w g o f u)(hb:∀k,w'.cell? ⟨g,k,none⟩=w.cell? ⟨g,k,none⟩):fc w' g o f u:=
 ⟨(hb _).trans h.c0,(hb _).trans h.c1,(hb _).trans h.c2,(hb _).trans h.c3,(hb _).trans h.c4,(hb _).trans h.c5⟩
section
variable {w w':World} {T S M gO B0 B1 gR cR:Nat} {rows:List bD}
theorem FS.below(h:FS w T S M gO B0 B1 gR cR rows)(hb:Lt w w'):FS w' T S M gO B0 B1 gR cR rows where
 s:=h.s.below hb
 t:=h.t
 g:=h.g
 b:=KP h.b hb.size
 c:=fun j r hj=>bZ (h.c j r hj) hb
 d:=h.d
 f:=fun r hr c hc=>⟨(h.f r hr c hc).1,(h.f r hr c hc).2.below' (fun k=>hb.cell (p:=⟨c.g,k,none⟩) (KQ w ⟨c.g,c.o,none⟩ (h.f r hr c hc).2.c0))⟩
 v:=fun r hr c hc=>(h.v r hr c hc).frame (fun g hg o=>hb.cell (p:=⟨g,o,none⟩) hg.2.1) (fun _ hg=>⟨hg.1,KV hg.2.1 hb.size,hg.2.2⟩)
theorem FS.cells(h:FS w T S M gO B0 B1 gR cR rows){j:Nat}{r:bD}(hj:rows[j]?=some r):j5 w r.v r.cs:=by
 have ho:=h.c j r hj;have hf:∀c∈r.cs,fc w c.g c.o c.f c.u:=fun c hc=>(h.f r (KN hj) c hc).2;rcases ho.2 with⟨hv,h0⟩|⟨g,cap,cur,hv,hg,hh,hn,_⟩
 ·exact⟨none,0,by rw[hv,h0],by omega,Or.inl (KZ h0)⟩
 ·refine⟨some ⟨g,0,none⟩,cap,hv,by omega,Or.inr ⟨g,0,rfl,fun i c hc=>⟨fun k hk=>?_,hf c (KN hc)⟩⟩⟩
  rw[hv]at ho;have:=dk.cell (ok:=fun _ _=>True) (flat:=o8) ⟨ho,fun _ _=>trivial⟩ (fun _=>rfl) i c hc;obtain⟨g2,cap2,e2,hc2⟩:=this;have e3:=(Addr.mk.inj (KY (Value.slice.inj e2).1)).1;subst e3;rw[show 0+i*6+k=i*6+k by omega];have hlt:k<(o8 c).length:=hk;rw[KM hlt];exact hc2 k _ (KM hlt)
theorem yL(v':Value)(cs':List eW):∀(rows:List bD) (i:Nat) (r:bD),rows[i]?=some r->(rows.set i ⟨r.k,r.id,v',cs'⟩).flatMap (qL gO)=(rows.flatMap (qL gO)).set (i*3+2) v'
 |[],_,_,h=>by simp at h
 |x::l,0,r,h=>by
  simp at h;subst h;simp[qL]
 |x::l,i+1,r,h=>by
  rw[List.set_cons_succ,List.flatMap_cons,List.flatMap_cons,yL v' cs' l i r (by simpa using h)];rw[show(i+1)*3+2=i*3+2+1+1+1 by omega];simp[qL]
theorem FS.push{x:World}{i g' LM:Nat}{r:bD}{c:eW}{o:Obj}(h:FS w T S M gO B0 B1 gR cR rows)(hi:rows[i]?=some r)(hg:(w.alloc o).grownBy x r.v.ownBlock)
 (LJ:x.ownsRow B1 173 6 (.slice (some ⟨g',0,none⟩) (r.cs.length+1) LM) (r.cs.length+1) (r.cs.flatMap o8++o8 c)) (hwh:r.v.ownBlock=some g'\/w.heap.size<=g')
 (hf:c.g<B0/\fc w c.g c.o c.f c.u) (_hB:B0<=B1) (hv:bI w (fun k=>B1<=k/\k<w.heap.size/\∀r'∈rows,r'.v.ownBlock≠some k) 1603 c.c (pv (du c.t))):
 FS (x.setCell ⟨gR,i*3+2,none⟩ (.slice (some ⟨g',0,none⟩) (r.cs.length+1) LM)) T S M gO B0 B1 gR cR (rows.set i ⟨r.k,r.id,.slice (some ⟨g',0,none⟩) (r.cs.length+1) LM,r.cs++[c]⟩):=by
 have hsz:=hg.size;simp at hsz;have Ma:∀k,r.v.ownBlock=some k->B1<=k:=fun k hk=>i7 (h.c i r hi) k hk;have hil:i<rows.length:=(KO.1 hi).1;have hb1:=h.b;have ht:=h.t;have hgR:=h.g;have low:∀k,k<w.heap.size->r.v.ownBlock≠some k->k≠gR->(x.setCell ⟨gR,i*3+2,none⟩ (.slice (some ⟨g',0,none⟩) (r.cs.length+1) LM)).heap[k]?=w.heap[k]?:=fun k hk h1 h2=>
  (KX _ _ _ _ h2).trans ((hg.block k (by simp;omega) (fun e=>h1 e.symm)).trans (bp _ _ _ hk))
 have hTR:T≠gR:=fun e=>by
  have:=jP h.s.r h.s.b (by decide);exact this (by rw[e];rfl)
 obtain⟨D,hM,hPM⟩:=h.s.m;have hMb:M≠gR/\r.v.ownBlock≠some M:=by
  obtain⟨es,cl,hb,_⟩:=hM;constructor
  ·intro e
   rcases h.s.r.2 with⟨y,_⟩|⟨g,cap,cur,hv,_,hh,_⟩
   ·cases y
   ·have e1:=(Addr.mk.inj (KY (Value.slice.inj hv).1)).1
    rw[<-e1,<-e,hb]at hh;cases hh
  ·intro e
   rcases(h.c i r hi).2 with⟨y,_⟩|⟨g,cap,cur,hv,_,hh,_⟩
   ·rw[y]at e;cases e
   ·rw[hv]at e
    have e1:=KY (show some g=some M from e);rw[e1,hb]at hh;cases hh
 have hML:=hM.lt;have hg'R:g'≠gR:=fun e=>by
  rcases hwh with q|q
  ·have:=Ma g' q;omega
  ·omega
 have mem:∀r'∈rows.set i ⟨r.k,r.id,.slice (some ⟨g',0,none⟩) (r.cs.length+1) LM,r.cs++[c]⟩,r'=⟨r.k,r.id,.slice (some ⟨g',0,none⟩) (r.cs.length+1) LM,r.cs++[c]⟩\/∃j,j≠i/\rows[j]?=some r':=fun r' hr'=>by
  obtain⟨j,hj⟩:=List.getElem?_of_mem hr';by_cases e:i=j
  ·subst e;rw[List.getElem?_set_self hil]at hj;left;exact(KY hj).symm
  ·rw[List.getElem?_set_ne e]at hj;right;exact⟨j,fun e'=>e e'.symm,hj⟩
 have ids:(rows.set i ⟨r.k,r.id,.slice (some ⟨g',0,none⟩) (r.cs.length+1) LM,r.cs++[c]⟩).map bD.id=rows.map bD.id:=by
  rw[List.map_set];refine List.ext_getElem? (fun j=>?_);by_cases e:i=j
  ·subst e;rw[List.getElem?_set_self (by rw[Ll];exact hil),La,hi];rfl
  ·rw[List.getElem?_set_ne e]
 have hgB:B0<=gR:=i7 h.s.r gR rfl;have newB:∀k,(B1<=k/\k<w.heap.size/\∀r'∈rows,r'.v.ownBlock≠some k)->g'≠k:=fun k hk e=>by
  rcases hwh with q|q
  ·exact hk.2.2 r (KN hi) (by rw[q,e])
  ·have:=hk.2.1;omega
 have Ot:∀f t,bI w (fun k=>B1<=k/\k<w.heap.size/\∀r'∈rows,r'.v.ownBlock≠some k) 1603 f t->bI (x.setCell ⟨gR,i*3+2,none⟩ (.slice (some ⟨g',0,none⟩) (r.cs.length+1) LM)) (fun k=>B1<=k/\k<(x.setCell ⟨gR,i*3+2,none⟩ (.slice (some ⟨g',0,none⟩) (r.cs.length+1) LM)).heap.size/\∀r'∈rows.set i ⟨r.k,r.id,.slice (some ⟨g',0,none⟩) (r.cs.length+1) LM,r.cs++[c]⟩,r'.v.ownBlock≠some k) 1603 f t:=fun f t q=>by
  refine q.frame (fun k hk o=>World.cell?_of_block (a:=⟨k,o,none⟩) (low k hk.2.1 (hk.2.2 r (KN hi)) (by have:=hk.1;omega))) (fun k hk=>⟨hk.1,by have:=hk.2.1;simp[World.setCell];omega,fun r' hr'=>?_⟩);rcases mem r' hr' with e|⟨j,_,hj⟩
  ·rw[e];exact fun e'=>newB k hk (KY e')
  ·exact hk.2.2 r' (KN hj)
 have Oy:∀c':eW,c'.g<B0/\fc w c'.g c'.o c'.f c'.u->c'.g<B0/\fc (x.setCell ⟨gR,i*3+2,none⟩ (.slice (some ⟨g',0,none⟩) (r.cs.length+1) LM)) c'.g c'.o c'.f c'.u:=fun c' q=>⟨q.1,q.2.below' (fun k=>World.cell?_of_block (a:=⟨c'.g,k,none⟩) (low c'.g (by have:=q.1;omega) (fun e=>by have:=Ma _ e;have:=q.1;omega) (by have:=q.1;omega)))⟩;refine⟨⟨?_,?_,⟨D,?_,by rw[ids];exact hPM⟩,by rw[ids];exact h.s.n,by rw[List.length_set];exact h.s.l⟩,ht,hgR,by simp[World.setCell];omega,?_,?_,?_,?_⟩
 ·rw[List.length_set]
  exact(low T (ag h.s.b) (fun e=>by have:=Ma T e;omega) hTR).trans h.s.b
 ·rw[List.length_set,yL _ _ rows i r hi]
  refine pP (kQ h.s.r (fun k hk=>?_)) _;have e:=KY (show some gR=some k from hk);subst e;exact(hg.block gR (by simp;omega) (fun e=>by have:=Ma gR e.symm;omega)).trans (bp _ _ _ (by omega))
 ·rw[List.length_set]
  exact((hM.alloc o).kept hg (fun e=>hMb.2 e.symm)).kept (row:=some gR) ⟨rfl,rfl,rfl,by simp[World.setCell],fun k _ hk=>KX _ _ _ _ (fun e=>hk (by rw[show k=gR from e]))⟩ (fun e=>hMb.1 (KY e))
 ·intro j r' hj
  by_cases e:i=j
  ·subst e
   rw[List.getElem?_set_self hil]at hj;have e':=(KY hj).symm;subst e';rw[Lb,List.flatMap_append];exact qH LJ (fun e=>hg'R (KY e)) _ _
  ·rw[List.getElem?_set_ne e]at hj
   exact kQ (h.c j r' hj) (fun k hk=>low k (ep (h.c j r' hj) k hk) (fun e'=>h.d j i r' r (fun x=>e x.symm) hj hi k hk e') (by have:=i7 (h.c j r' hj) k hk;omega))
 ·intro a b ra rb hab ha hb k hk
  by_cases ea:i=a
  ·subst ea
   rw[List.getElem?_set_self hil]at ha;rw[List.getElem?_set_ne hab]at hb;have e':=(KY ha).symm;subst e';have e2:=KY (show some g'=some k from hk);subst e2;rcases hwh with q|q
   ·exact h.d i b r rb hab hi hb g' q
   ·intro e';have:=ep (h.c b rb hb) g' e';omega
  ·rw[List.getElem?_set_ne ea]at ha
   by_cases eb:i=b
   ·subst eb
    rw[List.getElem?_set_self hil]at hb;have e':=(KY hb).symm;subst e';intro e2;have e3:=KY (show some g'=some k from e2);subst e3;rcases hwh with q|q
    ·exact h.d a i ra r hab ha hi g' hk q
    ·have:=ep (h.c a ra ha) g' hk;omega
   ·rw[List.getElem?_set_ne eb]at hb
    exact h.d a b ra rb hab ha hb k hk
 ·intro r' hr' c' hc'
  rcases mem r' hr' with e|⟨j,_,hj⟩
  ·subst e
   rcases List.mem_append.1 hc' with q|q
   ·exact Oy c' (h.f r (KN hi) c' q)
   ·rw[List.mem_singleton]at q;subst q;exact Oy _ hf
  ·exact Oy c' (h.f r' (KN hj) c' hc')
 ·intro r' hr' c' hc'
  rcases mem r' hr' with e|⟨j,_,hj⟩
  ·subst e
   rcases List.mem_append.1 hc' with q|q
   ·exact Ot _ _ (h.v r (KN hi) c' q)
   ·rw[List.mem_singleton]at q;subst q;exact Ot _ _ hv
  ·exact Ot _ _ (h.v r' (KN hj) c' hc')
end
attribute [local go_sem ↓] Go.wp_at_zero Go.wp_at_succ
def nT(R:Ls->Ls->Bool)(LS:List ax)(ns:List Ls)(n t:Ls):Bool:=match LS[(ah (LS.map ax.name) n).toNat]? with
 |some f=>decide (0<=ah (LS.map ax.name) n)&&(!decide (f.arg=ik)&&(decide (ah ns n<0)&&(jV t&&eD R f.ty (du t))))
 |none=>false
theorem info173:(prog.info? 173).map (fun i=>(i.zero,i.size,i.bytes))=some (some (.agg #[.pointer none,.string ⟨#[]⟩,.int .i64 0,.int .i64 0,.string ⟨#[]⟩,.slice none 0 0]),6,80):=by kernel_rfl
section
variable {w0:World} {S:Nat} {vR vO vI vU vN:Value} {LR:List (aj×Value)} {LO:List lF} {LI:List (bC×Value)} {LU:List (bB×Value)} {names:List Ls} {T M gO B1 gR cR:Nat} {rows:List bD}
theorem Ge(h:SV w0 S vR vO vI vU vN LR LO LI LU names)(hg:∃c,vO=.slice (some ⟨gO,0,none⟩) LO.length c)(W:World)(hB:Lt w0 W)(hF:FS W T S M gO w0.heap.size B1 gR cR rows)(hB1:w0.heap.size<=B1)(hk:∀r'∈rows,r'.k<LO.length)(i rk:Nat)(rid:Ls)(aV:Option Addr)(cV:Nat)(rcs:List eW)(x:lF)(hi:rows[i]?=some ⟨rk,rid,.slice aV rcs.length cV,rcs⟩)(hx:LO[rk]?=some x)(hcl:rcs.length<=999999)(n t:Ls)(ht:t.size<=2000000)(hwt:kA 1603 (du t)):
 Calls prog 112 #[.pointer (some ⟨T,0,none⟩),.pointer (some ⟨gR,i*3,none⟩),.agg #[.string n,.string t]] W fun e w'=>e=.returned (.bool (nT (gK (LO.map Prod.fst) (LI.map iN) (LU.map uN) (LU.map Prod.fst) rows) x.1.fields (rcs.map e8) n t))/\Lt w0 w'/\(nT (gK (LO.map Prod.fst) (LI.map iN) (LU.map uN) (LU.map Prod.fst) rows) x.1.fields (rcs.map e8) n t=true->∃v' c,x.1.fields[(ah (x.1.fields.map ax.name) n).toNat]?=some c.f/\c.f.name=n/\c.t=t/\FS w' T S M gO w0.heap.size B1 gR cR (rows.set i ⟨rk,rid,v',rcs++[c]⟩)):=by
 obtain⟨iC,hiC,zC0,zC1,zC2⟩:=info_parts info173;obtain⟨g1,cap1,hv1,r0,_,r2⟩:=hF.s.at hi;have eg:=(Addr.mk.inj (KY (Value.slice.inj hv1).1)).1;subst eg;obtain⟨g2,cap2,hv2,hc2⟩:=h.o.cell (fun _=>rfl) rk x hx;obtain⟨c0,hv0⟩:=id hg;rw[hv0]at hv2;have eg:=(Addr.mk.inj (KY (Value.slice.inj hv2).1)).1;subst eg;have o1:w0.cell? ⟨gO,rk*4+1,none⟩=some x.2.1:=hc2 1 _ rfl;obtain⟨hfl,hfln,_,_,_⟩:=h.o.ok x (KN hx);obtain⟨LF,eLF,Ma⟩:=hfl.row;have hnm:LF.map fN=x.1.fields.map ax.name:=pQ LF _ eLF;have hLl:LF.length=x.1.fields.length:=by rw[<-eLF,Ll]
 have hro:fJ w0 x.2.1 6 (x.1.fields.map ax.name):=by rw[<-hnm];exact Ma.rowed fN (fun _=>rfl) (fun _=>rfl)
 have HFO:=aa (fun X (hX:Lt W X)=>wW X gO (rk*4) x.2.1 n (x.1.fields.map ax.name) (ao (bT hB hX) o1) (hro.below (bT hB hX)) (by simp;omega));have HF:=aa hF;have HB:=aa hB;have HH:=aa h;have HPC:=aa (hF.cells hi);have hlg:gR<W.heap.size:=KV hF.g hF.b;have hB1W:=hF.b;have HQ:=aa (nT.eq_1 (gK (LO.map Prod.fst) (LI.map iN) (LU.map uN) (LU.map Prod.fst) rows) x.1.fields (rcs.map e8) n t);generalize hR:gK (LO.map Prod.fst) (LI.map iN) (LU.map uN) (LU.map Prod.fst) rows=R at*;have HRC:=aa (show∀X,Lt W X->xv X T R from fun X hX Y hY id c hid=>by
  rw[<-hR];exact Ei (h.below (bT (bT hB hX) hY)) hg ((hF.below (bT hX hY)).s) hk id c hid)
 have HIX:=aa (show(ah (x.1.fields.map ax.name) n<0->bx x.2.1 6 (ah (x.1.fields.map ax.name) n)=.pointer none)/\(¬ah (x.1.fields.map ax.name) n<0->∃gF j f u,bx x.2.1 6 (ah (x.1.fields.map ax.name) n)=.pointer (some ⟨gF,j*6,none⟩)/\x.1.fields[(ah (x.1.fields.map ax.name) n).toNat]?=some f/\f.name=n/\gF<w0.heap.size/\fc w0 gF (j*6) f u/\d9 w0 S u f.ty)from⟨fun e=>by unfold bx;rw[K9 e],fun e=>by
  obtain⟨j,y,hj,hy,hyn,_⟩:=iW fN LF n (by rw[hnm];exact e);obtain⟨gF,MW,hvF,hfa,hta⟩:=Ma.fldAt j y hy;rw[hnm]at hj;refine⟨gF,j,y.1,y.2,by rw[hj,hvF];unfold bx;rw[K8 (by omega)];rfl,by rw[hj,Lk,<-eLF,La,hy];rfl,hyn,KQ w0 ⟨gF,j*6,none⟩ hfa.c0,hfa,hta⟩⟩)
 have hil:i<rows.length:=(KO.1 hi).1;have hrl:=hF.s.l;have HI:=aa hi;generalize nT R x.1.fields (rcs.map e8) n t=q at*;generalize bx x.2.1 6 (ah (x.1.fields.map ax.name) n)=pf at*;generalize ah (x.1.fields.map ax.name) n=kf at*;clear h hg hB hF hR hv0 hv1 hv2 hc2 o1 hfl Ma hro hx hnm hi hk;go_enter func112,ntmps112;go_upto_region 1 with fail;have hN:=KS W (.cells #[.string n,.string t] 34);have hb:=bA (KL W.heap.size W) (.cells #[.string n,.string t] 34);generalize W.alloc (.cells #[.string n,.string t] 34)=W1 at*;have cN:=ae hN;have hlN:=ag hN;have HB1:=aa hb;have HS:=aa (fun V (hV:Lt W1 V)=>And.intro hV (And.intro (fun k=>(hV.cell (p:=⟨W.heap.size,k,none⟩) hlN).trans (cN k)) (ao hV (ao hb r0))));clear hN hb cN r0;go_cut [7] (fun v7 wc=>v7=pf/\Lt W1 wc)
 case first=>
  go_region_held3 (fun V=>Lt W1 V/\(∀k,V.cell? ⟨W.heap.size,k,none⟩=(#[.string n,.string t]:Array Value)[k]?)/\V.cell? ⟨gR,i*3,none⟩=some (.pointer (some ⟨gO,rk*4,none⟩)))
   (first|exact HS.o _ (KL _ _).drew|exact HS.o _ (bT bh b2))
   (first|(go_at_call 140;obtain⟨bh, -⟩:= ‹Lt W1 _/\_›;refine(HFO.o _ (bT HB1.o bh)).mono ?_;rintro _ w2 ⟨rfl,b2⟩))
  all_goals(obtain⟨bh, -⟩:= ‹Lt W1 _/\_›;(try go_wp2_with fail);go_meet;exact⟨rfl,bh⟩)
 case rest=>
  obtain⟨rfl,hb2⟩:=hcut;obtain⟨_,cN,_⟩:=HS.o _ hb2;have HB2:=aa (bT HB1.o hb2);have hlNc:W.heap.size<wc.heap.size:=KV hlN hb2.size;clear hb2 HS HFO;have RF:=aa (show∀X,Lt W X->q=false->Lt w0 X/\(q=true->∃v' c,x.1.fields[kf.toNat]?=some c.f/\c.f.name=n/\c.t=t/\FS X T S M gO w0.heap.size B1 gR cR (rows.set i ⟨rk,rid,v',rcs++[c]⟩))from fun X hX e=>⟨bT HB.o hX,fun e'=>by rw[e]at e';cases e'⟩);by_cases hkf:kf<0
  ·have e:=HIX.o.1 hkf
   subst e;have HF0:=aa (show q=false from by rw[HQ.o,KT (by omega)];split<;>rfl);go_wp2_with fail;go_ret;exact⟨am HF0.o.symm,RF.o _ HB2.o HF0.o⟩
  obtain⟨gF,j,f,u,e,hfk,hfn,hgF,hfa,hta⟩:=HIX.o.2 hkf;subst e;rw[hfk,Le (show 0<=kf by omega)]at HQ;have HQ1:=aa (show q=(!decide (f.arg=ik)&&(decide (ah (rcs.map e8) n<0)&&(jV t&&eD R f.ty (du t))))from HQ.o);clear HQ;have HTI:=aa (fun X (hX:Lt W X)=>Gu (w:=X) (hfa.below' (fun k=>(bT HB.o hX).cell (p:=⟨gF,k,none⟩) hgF)));have HFA:=aa hfa;have HTA:=aa hta;have HFK:=aa (And.intro hfk hfn);clear HIX hfa hta hfk hfn;cases ea:decide (f.arg=ik)
  rotate_left
  ·rw[ea]at HTI HQ1
   have HF0:=aa (show q=false from HQ1.o);clear ea;go_wp2_with fail;refine(HTI.o _ HB2.o).mono ?_;rintro _ w' ⟨rfl,hw'⟩;have hw':=hw'.symm;subst hw';go_wp2_with fail;go_ret;exact⟨am HF0.o.symm,RF.o _ HB2.o HF0.o⟩
  rw[ea]at HTI HQ1;have HQ2:=aa (show q=(decide (ah (rcs.map e8) n<0)&&(jV t&&eD R f.ty (du t)))from HQ1.o);clear HQ1;have HPL:=aa (fun X (hX:Lt W X)=>Ay X gR (i*3) (.slice aV rcs.length cV) n rcs (ao hX r2) (HPC.o.below hX) (by omega));clear ea HPC;by_cases hp:ah (rcs.map e8) n<0
  rotate_left
  ·have HF0:=aa (show q=false from by rw[HQ2.o,KT hp];rfl)
   generalize ah (rcs.map e8) n=pl at*;have hp0:decide ((0:Int)<=pl)=true:=by simp;omega
   go_wp2_with fail;refine(HTI.o _ HB2.o).mono ?_;rintro _ w' ⟨rfl,hw'⟩;have hw':=hw'.symm;subst hw';go_wp2_with fail;refine(HPL.o _ HB2.o).mono ?_;rintro _ w2 ⟨rfl,b2⟩;go_wp2_with fail;go_ret;exact⟨am HF0.o.symm,RF.o _ (bT HB2.o b2) HF0.o⟩
  rw[Le hp]at HQ2;have HQ3:=aa (show q=(jV t&&eD R f.ty (du t))from HQ2.o);clear HQ2;generalize ah (rcs.map e8) n=pl at*;have hp0:decide ((0:Int)<=pl)=false:=by simp;omega
  have HRC2:=aa (fun X=>Hj t X (by unfold maxLen;omega));clear hp;have HTY:=aa HTA.o.ptr;obtain⟨ku,rfl⟩:=HTA.o.ptr;go_wp2_with fail;refine(HTI.o _ HB2.o).mono ?_;rintro _ w' ⟨rfl,hw'⟩;have hw':=hw'.symm;subst hw';go_wp2_with fail;refine(HPL.o _ HB2.o).mono ?_;rintro _ w2 ⟨rfl,b2⟩;have cN2:=fun k=>(b2.cell (p:=⟨W.heap.size,k,none⟩) hlNc).trans (cN k);have hlN2:=KV hlNc b2.size;have HB3:=aa (bT HB2.o b2);clear cN b2 HPL HTI;go_wp2_with fail;refine(HRC2.o _).mono ?_;rintro _ w3 ⟨fv,rfl,b3,hv3⟩;unfold bw;have cN3:=fun k=>(b3.cell (p:=⟨W.heap.size,k,none⟩) hlN2).trans (cN2 k);have Nt:=KV hlN2 b3.size;have hs23:=HB3.o.size;have hs3:=b3.size;have HV3:=aa hv3;have HB4:=aa (bT HB3.o b3);clear cN2 b3 hv3 HRC2;generalize jV t=ok at*;cases ok
  ·have HF0:=aa (show q=false from HQ3.o)
   go_wp2_with fail;go_quiet (fail);go_wp2_with fail;go_ret;exact⟨am HF0.o.symm,RF.o _ (below_drewN (bA HB4.o _) _) HF0.o⟩
  have HQ4:=aa (show q=eD R f.ty (du t)from HQ3.o);clear HQ3;have hvv:=HV3.o rfl;go_upto_region 5 with fail;have hN4:=KS w3 (.cells #[.int .i64 fv.sh,.int .i64 fv.n,.string fv.s,.slice fv.la fv.ln fv.lc] 171);have hb4:=bA (KL w3.heap.size w3) (.cells #[.int .i64 fv.sh,.int .i64 fv.n,.string fv.s,.slice fv.la fv.ln fv.lc] 171);generalize w3.alloc (.cells #[.int .i64 fv.sh,.int .i64 fv.n,.string fv.s,.slice fv.la fv.ln fv.lc] 171)=W4 at*;have HB5:=aa (bT HB4.o hb4);have hl4:=ag hN4;have c4:=ae hN4;have HV4:=aa (hvv.frame (w':=W4) (B':=fun g=>w2.heap.size<=g/\g<w3.heap.size) (fun g hg o=>hb4.cell (p:=⟨g,o,none⟩) hg.2) (fun g hg=>hg));have cN4:=fun k=>(hb4.cell (p:=⟨W.heap.size,k,none⟩) Nt).trans (cN3 k);have NW:=KV Nt hb4.size;have hs4:=hb4.size;have f5:=(bT HB.o HB5.o).cell (p:=⟨gF,j*6+5,none⟩) hgF;have HFT:=aa (fun X (hX:Lt W4 X)=>FY (HRC.o W4 HB5.o) f.ty X (.pointer (some ⟨ku,0,none⟩)) fv (du t) 1603 1603 S hX (HTA.o.stays (au.of_below (bT (bT HB.o HB5.o) hX))) (HV4.o.frame (fun g hg o=>hX.cell (p:=⟨g,o,none⟩) (KV hg.2 hs4)) (fun g hg=>KV hg.2 (KP hs4 hX.size))) hwt);unfold bw at HFT;have HS:=aa (fun V (hV:Lt W4 V)=>And.intro hV (And.intro (fun k=>(hV.cell (p:=⟨w3.heap.size,k,none⟩) hl4).trans (c4 k)) (ao hV (f5.trans HFA.o.c5))));generalize eD R f.ty (du t)=qf at*;clear hN4 hb4 hvv HV3 cN3 c4 f5;go_cut [49] (fun v49 wd=>v49=.bool (!qf)/\Lt W4 wd)
  case first=>
   go_region_held3 (fun V=>Lt W4 V/\(∀k,V.cell? ⟨w3.heap.size,k,none⟩=(#[.int .i64 fv.sh,.int .i64 fv.n,.string fv.s,.slice fv.la fv.ln fv.lc]:Array Value)[k]?)/\V.cell? ⟨gF,j*6+5,none⟩=some (.pointer (some ⟨ku,0,none⟩)))
    (first|exact HS.o _ (KL _ _).drew|exact HS.o _ (bT bh b2))
    (first|(go_at_call 152;obtain⟨bh, -⟩:= ‹Lt W4 _/\_›;refine(HFT.o _ bh).mono ?_;rintro _ w5 ⟨rfl,b2⟩))
   all_goals(obtain⟨bh, -⟩:= ‹Lt W4 _/\_›;(try go_wp2_with fail);go_meet;exact⟨rfl,bh⟩)
  case rest=>
   obtain⟨rfl,hb5⟩:=hcut;obtain⟨_,c5,_⟩:=HS.o _ hb5;have HB6:=aa (bT HB5.o hb5);cases qf
   ·have HF0:=aa (show q=false from HQ4.o)
    go_wp2_with fail;go_ret;exact⟨am HF0.o.symm,RF.o _ HB6.o HF0.o⟩
   ·have HTR:=aa (show q=true from HQ4.o)
    have cN5:=fun k=>(hb5.cell (p:=⟨W.heap.size,k,none⟩) NW).trans (cN4 k);have hFd:=HF.o.below HB6.o;have HFD:=aa hFd;obtain⟨gq,cq,hvq,_,_,q2⟩:=hFd.s.at HI.o;have eq:=(Addr.mk.inj (KY (Value.slice.inj hvq).1)).1;subst eq;have HOC:=aa (hFd.c i _ HI.o);have HV5:=aa (HV4.o.frame (w':=wc) (B':=fun g=>w2.heap.size<=g/\g<w3.heap.size) (fun g hg o=>hb5.cell (p:=⟨g,o,none⟩) (KV hg.2 hs4)) (fun g hg=>hg));have hs5:=hb5.size;have hwc:W.heap.size<=wc.heap.size:=HB6.o.size;have hl5:w3.heap.size<wc.heap.size:=KV hl4 hs5;have hlN5:W.heap.size<wc.heap.size:=KV NW hs5;obtain⟨cur,hcur⟩:∃cur,wc.heap[gR]?=some (.cells cur 107 (0,0)):=by
     rcases hFd.s.r.2 with⟨y,_⟩|⟨g,cap,cur,hv,_,hh,_⟩
     ·cases y
     ·have e1:=(Addr.mk.inj (KY (Value.slice.inj hv).1)).1
      rw[<-e1]at hh;exact⟨cur,hh⟩
    have HCU:=aa hcur;have fR:=ar hcur (i*3+2);have hlR:gR<wc.heap.size:=ag hcur;have hgR1:=hFd.g;have hne:Option.some gR≠(Value.slice aV rcs.length cV).ownBlock:=fun e=>by have:=i7 HOC.o gR e.symm;omega
    have hcsl:rcs.length<=999999:=hcl;clear hb5 HS hFd hcur HFT HRC HV4 cN4 hvq;go_wp2_with fail;go_region_law (first
     |(refine step_append_lies _ (by rfl) _ _ _ (by rfl) B1 173 iC _ 6 80 underlying105 hiC zC0 zC1 zC2 rfl (by decide) _ _ _ (by rfl) (hO6.alloc _) ⟨w6.heap.size,0,none⟩ 1 1 [.pointer (some ⟨gF,j*6,none⟩),.string t,.int .i64 fv.sh,.int .i64 fv.n,.string fv.s,.slice fv.la fv.ln fv.lc] (by rfl) (by rfl) (de _ _ _ _ (by simp)) (rM rfl rfl rfl rfl rfl rfl) (by decide) (by unfold maxLen;omega) (by omega) (by simp;omega) (w6.heap.size+1) (by simp) ?_;intro g cap w7 hown7 hgrow hat hg7;have g7:=(hgrow.block gR (by simp;omega) hne).trans ((bp _ _ _ l6).trans g6);have e7:=(World.cell?_of_block (a:=⟨gR,i*3+2,none⟩) (g7.trans g6.symm)).trans d6;have f7:=ar g7 (i*3+2);have l7:=ag g7)
     |(go_simp;go_at_call 148;refine(uM t _ ht).mono ?_;rintro _ w6 ⟨rfl,b6⟩;have bb:Lt wc w6:=(by first|exact b6|exact(KL _ _).drew.trans b6);have hO6:=bZ HOC.o bb;have d6:=ao bb q2;have cN6:=(fun k=>(bb.cell (p:=⟨W.heap.size,k,none⟩) hlN5).trans (cN5 k));have c6:=(fun k=>(bb.cell (p:=⟨w3.heap.size,k,none⟩) hl5).trans (c5 k));have g6:=(bb.block gR hlR).trans HCU.o;have l6:=ag g6;have z6:=bb.size))
    all_goals(
     have hF6:=HFD.o.below bb;have hvc:bI w6 (fun k=>B1<=k/\k<w6.heap.size/\∀r'∈rows,r'.v.ownBlock≠some k) 1603 fv (pv (du t)):=HV5.o.frame (fun g hg o=>bb.cell (p:=⟨g,o,none⟩) (Nat.lt_trans hg.2 hl5)) (fun g hg=>by
      have h1:w2.heap.size<=g:=hg.1;have h2:g<w3.heap.size:=hg.2;refine⟨by omega,by omega,fun r' hr' e=>?_⟩;obtain⟨jj,hjj⟩:=List.getElem?_of_mem hr';have:=ep (HF.o.c jj r' hjj) g e;omega)
     have HX:=aa (hF6.push (c:=⟨gF,j*6,f,.pointer (some ⟨ku,0,none⟩),t,fv⟩) HI.o hgrow hown7 (hat.imp (fun e=>e) (fun e=>by omega)) ⟨hgF,HFA.o.below' (fun k=>(bT (bT HB.o HB6.o) bb).cell (p:=⟨gF,k,none⟩) hgF)⟩ hB1 hvc);have HBX:=aa (show Lt w0 (w7.setCell ⟨gR,i*3+2,none⟩ (.slice (some ⟨g,0,none⟩) (rcs.length+1) cap))from by
      have hb9:=bT (bT HB.o HB6.o) bb;have hz:=hgrow.size;simp at hz;have h9:=hb9.size;have hgw:w0.heap.size<=gR:=i7 HF.o.s.r gR rfl;exact⟨hgrow.os.trans hb9.os,hgrow.tape.trans hb9.tape,hgrow.output.trans hb9.output,by simp[World.setCell];omega,fun k hk=>(KX _ _ _ _ (show k≠gR by omega)).trans ((hgrow.block k (by simp;omega) (fun e=>by have:=i7 HOC.o k e.symm;omega)).trans ((bp _ _ _ (by omega)).trans (hb9.block k hk)))⟩)
     clear hgrow hown7 hO6 hat g7 hF6 hvc bb g6 d6;go_wp2_with fail;go_ret;exact⟨am HTR.o.symm,HBX.o,fun _=>⟨_,_,HFK.o.1,HFK.o.2,rfl,HX.o⟩⟩)
end
def j6(s:St):Prop:=∀t∈s.getD [],io t
theorem oT{s:St}(h:j6 s):j6 (tl s):=by
 match s with
 |none=>exact h
 |some []=>exact h
 |some (x::l)=>exact fun t ht=>h t (List.mem_cons_of_mem _ ht)
theorem sI:j6 none:=fun t ht=>by simp at ht
theorem I5{s:St}(h:j6 s)(b:Bool):j6 (ak s b):=by
 unfold ak;split
 ·exact oT h
 ·exact sI
theorem GK{s:St}(h:j6 s):j6 (jU s):=by
 unfold jU;split
 ·exact oT h
 ·exact sI
theorem BP{s:St}(h:j6 s):(hd s).s.size<=4000:=by
 match s with
 |none=>exact KU _
 |some []=>exact KU _
 |some (x::l)=>exact(h x (List.mem_cons_self ..)).2.2.1
theorem yS{s:St}(h:j6 s):(br s).sh<=6/\(br s).s.size<=4000:=by
 have hh:=BP h;have h0:ByteArray.size ⟨#[]⟩<=4000:=KU _;unfold br;split
 ·exact⟨show 1<=6 by decide,h0⟩
 ·split
  ·rename_i h3
   refine⟨show 2<=6 by decide,?_⟩;have:(hd s).k=3:=(uT _).1 h3;show(rs (hd s)).size<=4000;unfold rs;rw[K9 (by omega)];exact hh
  ·split
   ·exact⟨by decide,h0⟩
   ·split
    ·exact⟨by decide,h0⟩
    ·exact⟨KU _,h0⟩
theorem zN:∀(f:Nat),(∀(d:Nat) (s:St),j6 s->ln s<=801->kA f (bz f d s).1/\j6 (bz f d s).2)/\∀(d:Nat) (s:St),j6 s->ln s<=801->(bJ f d s).1.length<=ln s/\(∀r∈(bJ f d s).1,kA f r)/\j6 (bJ f d s).2
 |0=>⟨fun d s h _=>by rw[bz];exact⟨⟨KU _,KU _,rfl⟩,h⟩,fun d s h _=>by rw[bJ];exact⟨KU _,fun r hr=>by simp at hr,h⟩⟩
 |f+1=>by
  obtain⟨ih1,ih2⟩:=zN f;have up:∀(k:Nat) (r:RV),kA k r->kA (k+1) r:=fun k=>by
   induction k with
   |zero=>intro r hr;obtain⟨sh,n,s,l⟩:=r;obtain⟨h1,h2,h3⟩:=hr;exact⟨h1,h2,by rw[h3];simp,fun r hr=>by rw[h3]at hr;simp at hr⟩
   |succ k ih=>intro r hr;obtain⟨sh,n,s,l⟩:=r;obtain⟨h1,h2,h3,h4⟩:=hr;exact⟨h1,h2,h3,fun r hr=>ih r (h4 r hr)⟩
  refine⟨fun d s h hl=>?_,fun d s h hl=>?_⟩
  ·rw[bz]
   split
   ·exact⟨⟨(yS h).1,(yS h).2,by simp,fun r hr=>by simp at hr⟩,oT h⟩
   ·split
    ·exact⟨⟨by decide,KU _,by simp,fun r hr=>by simp at hr⟩,oT h⟩
    ·split
     ·refine⟨⟨by decide,?_,by simp,fun r hr=>by simp at hr⟩,GK (oT h)⟩
      unfold tx;split
      ·exact BP (oT h)
      ·exact KU _
     ·have hs:j6 (if 10<=d then none else ak s (af s 12)):=by split;exact sI;exact I5 h _
      have hn:ln (if 10<=d then none else ak s (af s 12))<=ln s:=by split;exact KU _;exact cg _ _
      obtain⟨a,b,c⟩:=ih2 d _ hs (KP hn hl);exact⟨⟨by decide,KU _,by omega,b⟩,c⟩
  ·rw[bJ]
   split
   ·rename_i e;subst e;exact⟨KU _,fun r hr=>by simp at hr,h⟩
   ·split
    ·exact⟨KU _,fun r hr=>by simp at hr,oT h⟩
    ·rename_i h0 _
     obtain⟨a,b⟩:=ih1 (d+1) s h hl;have hln:=(A2 f).1 (d+1) s;obtain⟨a2,b2,c2⟩:=ih2 d _ b (KP hln hl);refine⟨?_,fun r hr=>?_,c2⟩
     ·rw[Lm]
      cases f with
      |zero=>rw[bJ];cases s with|none=>exact absurd rfl h0|some l=>simp[ln]
      |succ f=>have:=su f (d+1) s h0;omega
     ·rcases List.mem_cons.1 hr with e|e
      ·rw[e];exact up _ _ a
      ·exact up _ _ (b2 r e)
theorem zI(x:Ls):kA 1603 (du x):=by
 have hw:j6 (av x)/\ln (av x)<=801:=by
  cases h:av x with
  |none=>exact⟨sI,KU _⟩
  |some ts=>have:=oc x ts h;exact⟨this.1,by show ts.length+1<=801;omega⟩
 exact((zN 1603).1 0 (av x) hw.1 hw.2).1
def nW(R:Ls->Ls->Bool)(LS:List ax):List Ls->List dd->Bool
 |_,[]=>true
 |ns,c::cs=>nT R LS ns c.1 c.2&&nW R LS (ns++[c.1]) cs
def kZ(R:Ls->Ls->Bool)(Lx:List aH)(y:bo):Bool:=match Lx[(ah (Lx.map aH.name) y.1).toNat]? with
 |some o=>nW R o.fields [] y.2.2
 |none=>false
structure KJ(Lx:List aH)(y:bo)(r:bD):Prop where
 k:r.k=(ah (Lx.map aH.name) y.1).toNat
 id:r.id=y.2.1
structure rQ(Lx:List aH)(r:bD)(l:List dd):Prop where
 e:r.cs.map (fun c=>(c.f.name,c.t))=l
 f:∀c∈r.cs,∀o,Lx[r.k]?=some o->o.fields[(ah (o.fields.map ax.name) c.f.name).toNat]?=some c.f
theorem GF(Lx:List aH)(ifs uns:List Ls)(us:List bB){rows Mc:List bD}(h:rows.map (fun r=>(r.k,r.id))=Mc.map (fun r=>(r.k,r.id))):gK Lx ifs uns us rows=gK Lx ifs uns us Mc:=by
 funext c id;have h1:rows.map bD.id=Mc.map bD.id:=by
  have:=congrArg (List.map Prod.snd) h;rw[List.map_map,List.map_map]at this;exact this
 have h2:∀j:Nat,(rows[j]?).map bD.k=(Mc[j]?).map bD.k:=fun j=>by
  have:=congrArg (fun l:List (Nat×Ls)=>(l[j]?).map Prod.fst) h;simp only[La,Option.map_map]at this;exact this
 unfold gK;rw[h1];split
 ·rfl
 ·split
  ·rfl
  ·have:=h2 (ah (Mc.map bD.id) id).toNat
   generalize rows[(ah (Mc.map bD.id) id).toNat]?=a at*;generalize Mc[(ah (Mc.map bD.id) id).toNat]?=b at*;cases a with
   |none=>cases b with
    |none=>rfl
    |some r=>cases this
   |some r=>cases b with
    |none=>cases this
    |some r'=>
     have e:r.k=r'.k:=KY this;dsimp only;rw[e]
def jQ(r:bD):Nat×Ls:=(r.k,r.id)
section
variable {w0:World} {S:Nat} {vR vO vI vU vN:Value} {LR:List (aj×Value)} {LO:List lF} {LI:List (bC×Value)} {LU:List (bB×Value)} {names:List Ls} {T M gO B1 gR cR:Nat} {Mr:List bD}
theorem IV(h:SV w0 S vR vO vI vU vN LR LO LI LU names)(hg:∃c,vO=.slice (some ⟨gO,0,none⟩) LO.length c)(W:World)(hB:Lt w0 W)(hF:FS W T S M gO w0.heap.size B1 gR cR Mr)(hB1:w0.heap.size<=B1)(aY:Option Addr)(cY:Nat)(ys:List bo)(hY:eM w0 (.slice aY ys.length cY) ys)(hyl:ys.length<=200)(Me:Mr.length=ys.length)(hk:∀r∈Mr,r.k<LO.length)
 (hr0:∀(j:Nat) (r:bD) (y:bo),Mr[j]?=some r->ys[j]?=some y->r.cs=[]/\r.k=(ah ((LO.map Prod.fst).map aH.name) y.1).toNat) (hcl:∀y∈ys,y.2.2.length<=900000/\∀c∈y.2.2,c.2.size<=2000000):
 Calls prog 79 #[.pointer (some ⟨T,0,none⟩),.slice aY ys.length cY] W fun e w'=>e=.returned (.bool (ys.all (kZ (gK (LO.map Prod.fst) (LI.map iN) (LU.map uN) (LU.map Prod.fst) Mr) (LO.map Prod.fst))))/\Lt w0 w'/\(ys.all (kZ (gK (LO.map Prod.fst) (LI.map iN) (LU.map uN) (LU.map Prod.fst) Mr) (LO.map Prod.fst))=true->∃rows,FS w' T S M gO w0.heap.size B1 gR cR rows/\rows.map jQ=Mr.map jQ/\∀(j:Nat) (r:bD) (y:bo),rows[j]?=some r->ys[j]?=some y->rQ (LO.map Prod.fst) r y.2.2):=by
 obtain⟨R,HR⟩:∃R,Hi (R=gK (LO.map Prod.fst) (LI.map iN) (LU.map uN) (LU.map Prod.fst) Mr):=⟨_,aa rfl⟩;rw[<-HR.o];obtain⟨q,HQ⟩:∃q,Hi (q=ys.all (kZ R (LO.map Prod.fst))):=⟨_,aa rfl⟩;rw[<-HQ.o];have HA:=aa (fun X (hX:Lt w0 X) rows (hF':FS X T S M gO w0.heap.size B1 gR cR rows) (hk':∀r∈rows,r.k<LO.length)=>Ge h hg X hX hF' hB1 hk');have HY:=aa hY;have HF:=aa hF;have HB:=aa hB;have HK:=aa hk;have HR0:=aa hr0;have HCL:=aa hcl;have hTl:=hF.t;have hgl:=hF.g;have hbW:=hF.b;clear h hg hF hB hY hk hr0 hcl;go_enter func79,ntmps79;go_wp2_with fail;go_loopg [5,6,8,11,17,18,19] ys.length (fun m v5 v6 v8 v11 v17 v18 v19 wr=>∃(i:Nat) (rows:List bD),v11=.int .i64 i/\i<=ys.length/\ys.length-i<=m/\Lt w0 wr/\FS wr T S M gO w0.heap.size B1 gR cR rows/\rows.map jQ=Mr.map jQ/\(∀(j:Nat) (r:bD) (y:bo),j<i->rows[j]?=some r->ys[j]?=some y->rQ (LO.map Prod.fst) r y.2.2)/\(∀(j:Nat) (r:bD),i<=j->rows[j]?=some r->r.cs=[])/\q=(ys.drop i).all (kZ R (LO.map Prod.fst)))
 case atStart=>
  refine⟨0,Mr,rfl,KU _,KK _,HB.o,HF.o,rfl,fun j r y hj=>absurd hj (Nat.not_lt_zero _),fun j r _ hj=>?_,HQ.o⟩;have hjl:j<ys.length:=by rw[<-Me];exact(KO.1 hj).1
  exact(HR0.o j r _ hj (KM hjl)).1
 case round=>
  obtain⟨i,rows,rfl,hil,hm,hb,hf,NX,hdone,LW,hq⟩:=hrel;have HBR:=aa hb;have HFR:=aa hf;have HKI:=aa NX;have HDO:=aa hdone;have HRE:=aa LW;have HQI:=aa hq;clear hb hf NX hdone LW hq;by_cases hlt:i<ys.length
  ·have hx:=KM hlt
   generalize ys[i]=y at hx;have hrl:rows.length=ys.length:=by have:=congrArg List.length HKI.o;simp only[Ll]at this;omega
   obtain⟨r0,hr0⟩:∃r0,rows[i]?=some r0:=⟨_,KM (by omega)⟩;have Ov:∀Mc:List bD,Mc.map jQ=Mr.map jQ->∀r∈Mc,r.k<LO.length:=fun Mc e r hr=>by
    have:jQ r∈Mr.map jQ:=by rw[<-e];exact List.mem_map_of_mem hr
    obtain⟨r1,h1,h2⟩:=List.mem_map.1 this;have:=HK.o r1 h1;have e1:r1.k=r.k:=congrArg Prod.fst h2;omega
   have hrk:=Ov rows HKI.o r0 (KN hr0);obtain⟨x,hxo⟩:∃x,LO[r0.k]?=some x:=⟨_,KM hrk⟩;have hrk2:r0.k=(ah ((LO.map Prod.fst).map aH.name) y.1).toNat:=by
    have e:(rows.map jQ)[i]?=(Mr.map jQ)[i]?:=by rw[HKI.o]
    rw[La,La,hr0]at e;obtain⟨r1,h1⟩:∃r1,Mr[i]?=some r1:=⟨_,KM (by omega)⟩;rw[h1]at e;rw[<-(HR0.o i r1 y h1 hx).2];exact congrArg Prod.fst (KY e)
   have HQN:=aa (show q=(nW R x.1.fields [] y.2.2&&(ys.drop (i+1)).all (kZ R (LO.map Prod.fst)))from by
    rw[HQI.o,ow hx];show(kZ R (LO.map Prod.fst) y&&_)=_;unfold kZ;rw[<-hrk2,La,hxo];rfl)
   obtain⟨gY,oY,aC,cC,e,y0,y1,y2,hyc⟩:=HY.o.at hx;subst e;have HYC:=aa hyc;have y0:=ao HBR.o y0;have y1:=ao HBR.o y1;have y2:=ao HBR.o y2;clear hyc;have hgY:gY<wr.heap.size:=KQ wr _ y0;obtain⟨qy,HQY⟩:∃qy,Hi (qy=nW R x.1.fields [] y.2.2):=⟨_,aa rfl⟩;rw[<-HQY.o]at HQN;have HX:=aa (And.intro hx (And.intro hxo hr0));have HKA:=aa Ov;have hycl:=HCL.o y (KN hx);have hcl1:=hycl.1;have HCT:=aa hycl.2;have hcs0:=HRE.o i r0 (KK _) hr0;have HC0:=aa (show rQ (LO.map Prod.fst) r0 (y.2.2.take 0)from⟨by rw[hcs0];rfl,fun c hc=>by rw[hcs0]at hc;simp at hc⟩);obtain⟨wo,rfl⟩:∃wo:World,wo=wr:=⟨_,rfl⟩;clear hx hxo hr0 Ov hrk hrk2 hycl hcs0 HQI;go_wp2_with fail;go_loopg [8,19] y.2.2.length (fun m v8 v19 wr=>∃(k:Nat) (Mc:List bD) (r:bD),v19=.int .i64 k/\k<=y.2.2.length/\y.2.2.length-k<=m/\Lt w0 wr/\FS wr T S M gO w0.heap.size B1 gR cR Mc/\Mc.map jQ=Mr.map jQ/\(∀j,j≠i->Mc[j]?=rows[j]?)/\Mc[i]?=some r/\r.k=r0.k/\rQ (LO.map Prod.fst) r (y.2.2.take k)/\qy=nW R x.1.fields ((y.2.2.take k).map (·.1)) (y.2.2.drop k))
   case atStart=>exact⟨0,rows,r0,rfl,KU _,KK _,bA HBR.o _,HFR.o.below (bA (KL _ _) _),HKI.o,fun _ _=>rfl,HX.o.2.2,rfl,HC0.o,HQY.o⟩
   case round=>
    clear y0 y1 y2 hgY;obtain⟨k,Mc,r,rfl,hkl,hm2,hb,hf,NX,hoth,hri,hrk,hca,hqk⟩:=hrel;have HBK:=aa hb;have HFK:=aa hf;have HKK:=aa NX;have HOT:=aa hoth;have HRI:=aa hri;have HCA:=aa hca;have HQK:=aa hqk;have HRK:=aa hrk;clear hb hf NX hoth hri hca hqk hrk;by_cases Ml:k<y.2.2.length
    ·have hc:=KM Ml
     generalize y.2.2[k]=c at hc;obtain⟨gC,oC,e,c0,c1⟩:=(HYC.o.below HBK.o).at hc;subst e;have hgC:gC<wr.heap.size:=KQ wr _ c0;obtain⟨rk,rid,rv,rcs⟩:=r;have hco:=HFK.o.c i _ HRI.o;obtain⟨aV,cV,hv⟩:=bc hco;simp only at hv;subst hv;have hrk:rk=r0.k:=HRK.o;subst hrk;have hns:rcs.map e8=(y.2.2.take k).map (·.1):=by rw[<-HCA.o.e,List.map_map];rfl
     have hrcl:rcs.length<=900000:=by
      have:=congrArg List.length hns;simp only[Ll,List.length_take]at this;omega
     have hRR:gK (LO.map Prod.fst) (LI.map iN) (LU.map uN) (LU.map Prod.fst) Mc=R:=by rw[HR.o];exact GF _ _ _ _ HKK.o
     have HFI:=aa (fun X (hX:Lt wr X)=>HA.o X (bT HBK.o hX) Mc (HFK.o.below hX) (HKA.o Mc HKK.o) i r0.k rid aV cV rcs x HRI.o HX.o.2.1 (by omega) c.1 c.2 (HCT.o c (KN hc)) (zI c.2));rw[hRR,hns]at HFI;have HQC:=aa (show qy=(nT R x.1.fields ((y.2.2.take k).map (·.1)) c.1 c.2&&nW R x.1.fields ((y.2.2.take (k+1)).map (·.1)) (y.2.2.drop (k+1)))from by
      rw[HQK.o,ow hc,Ld,hc,Lr];rfl)
     have HTK:=aa (show y.2.2.take (k+1)=y.2.2.take k++[c]from by rw[Ld,hc];rfl);obtain⟨qf,HQF⟩:∃qf,Hi (nT R x.1.fields ((y.2.2.take k).map (·.1)) c.1 c.2=qf):=⟨_,aa rfl⟩;rw[HQF.o]at HQC HFI;have cT:=ae HFK.o.s.b;have hlT:=ag HFK.o.s.b;have hrl2:Mc.length=ys.length:=by have:=congrArg List.length HKK.o;simp only[Ll]at this;omega
     rw[hrl2]at cT;clear hc hco hRR hns;go_upto_region 7 with fail;have hN:=KS wr (.cells #[.string c.1,.string c.2] 34);have hb:=bA (KL wr.heap.size wr) (.cells #[.string c.1,.string c.2] 34);generalize wr.alloc (.cells #[.string c.1,.string c.2] 34)=W1 at*;have cN:=ae hN;have hlN:=ag hN;have HB1:=aa hb;have cT:=fun k=>(hb.cell (p:=⟨T,k,none⟩) hlT).trans (cT k);have hlT1:T<W1.heap.size:=KV hlT hb.size;clear hN hb;go_cut [32] (fun v32 wd=>v32=.bool (!qf)/\Lt w0 wd/\(qf=true->∃v' c',x.1.fields[(ah (x.1.fields.map ax.name) c.1).toNat]?=some (eW.f c')/\c'.f.name=c.1/\c'.t=c.2/\FS wd T S M gO w0.heap.size B1 gR cR (Mc.set i ⟨r0.k,rid,v',rcs++[c']⟩)))
     case first=>
      go_region_with (go_at_call 112;refine(HFI.o _ ?_).mono ?_;(first|exact HB1.o.drew|exact HB1.o);rintro _ w2 ⟨rfl,b2,h2⟩);all_goals(try go_wp2_with fail)
      all_goals(go_meet;exact⟨rfl,b2,h2⟩)
     case rest=>
      obtain⟨rfl,hbd,hfd⟩:=hcut;clear cN cT c0 c1;cases qf
      ·have HF0:=aa (show q=false from by rw[HQN.o,HQC.o];rfl)
       go_wp2_with fail;go_ret;exact⟨am HF0.o.symm,hbd,fun e=>by rw[HF0.o]at e;cases e⟩
      ·obtain⟨v',c',h1,h2,h3,h4⟩:=hfd rfl
       have HH:=aa (And.intro h1 (And.intro h2 (And.intro h3 h4)));have HBD:=aa hbd;clear h1 h2 h3 h4 hfd hbd;go_wp2_with fail;go_roundg (y.2.2.length-(k+1))
       case measure=>omega
       case rel=>
        have hil2:i<Mc.length:=by omega
        refine⟨k+1,_,⟨r0.k,rid,v',rcs++[c']⟩,by go_num,by omega,KK _,HBD.o,HH.o.2.2.2,?_,fun j hj=>by rw[List.getElem?_set_ne (fun e=>hj e.symm)];exact HOT.o j hj,List.getElem?_set_self hil2,rfl,⟨?_,fun c2 hc2 o ho=>?_⟩,HQC.o⟩
        ·rw[<-HKK.o,List.map_set]
         refine List.ext_getElem? (fun j=>?_);by_cases e:i=j
         ·subst e;rw[List.getElem?_set_self (by rw[Ll];exact hil2),La,HRI.o];rfl
         ·rw[List.getElem?_set_ne e]
        ·rw[HTK.o,Lr]
         show List.map _ rcs++[(c'.f.name,c'.t)]=_;rw[HH.o.2.1,HH.o.2.2.1,show rcs.map (fun c=>(c.f.name,c.t))=y.2.2.take k from HCA.o.e]
        ·rcases List.mem_append.1 hc2 with e|e
         ·exact HCA.o.f c2 e o ho
         ·rw[List.mem_singleton]at e
          subst e;have ho':(LO.map Prod.fst)[r0.k]?=some o:=ho;rw[La,HX.o.2.1]at ho';have e1:=KY ho';rw[<-e1,HH.o.2.1];exact HH.o.1
    ·have hke:k=y.2.2.length:=by omega
     subst hke;have HTT:=aa (show q=(ys.drop (i+1)).all (kZ R (LO.map Prod.fst))from by rw[HQN.o,HQK.o,List.drop_length];rfl);go_wp2_with fail;go_roundg (ys.length-(i+1))
     case measure=>omega
     case rel=>
      refine⟨i+1,Mc,by go_num,by omega,KK _,HBK.o,HFK.o,HKK.o,fun j r' y' hj hr' hy'=>?_,fun j r' hj hr'=>?_,HTT.o⟩
      ·by_cases e:j=i
       ·subst e
        rw[HRI.o]at hr';rw[HX.o.1]at hy';have e1:=KY hr';have e2:=KY hy';subst e1 e2;have:=HCA.o;rw[List.take_length]at this;exact this
       ·rw[HOT.o j e]at hr'
        exact HDO.o j r' y' (by omega) hr' hy'
      ·rw[HOT.o j (by omega)]at hr'
       exact HRE.o j r' (by omega) hr'
  ·have hie:i=ys.length:=by omega
   subst hie;have HT1:=aa (show q=true from by rw[HQI.o,List.drop_length];rfl);go_wp2_with fail;go_ret;exact⟨am HT1.o.symm,HBR.o,fun _=>⟨rows,HFR.o,HKI.o,fun j r y hr hy=>HDO.o j r y (KO.1 hy).1 hr hy⟩⟩
end
structure qO(w:World)(gO gR j:Nat)(Lx:List aH)(y:bo):Prop where
 ex:∃r:bD,r.k=(ah (Lx.map aH.name) y.1).toNat/\r.id=y.2.1/\w.cell? ⟨gR,j*3,none⟩=some (.pointer (some ⟨gO,r.k*4,none⟩))/\w.cell? ⟨gR,j*3+1,none⟩=some (.string y.2.1)/\w.cell? ⟨gR,j*3+2,none⟩=some r.v/\j5 w r.v r.cs/\rQ Lx r y.2.2/\∀c∈r.cs,bI w (fun g=>g<w.heap.size) 1603 c.c (pv (du c.t))
structure qR(w:World)(T S gO:Nat)(Lx:List aH)(ys:List bo):Prop where
 ex:∃a cap M,w.heap[T]?=some (.cells #[.slice a ys.length cap,.pointer (some ⟨S,0,none⟩),.map (some M)] 74 (0,0))/\(ys=[]\/∃gR,a=some ⟨gR,0,none⟩/\∀j y,ys[j]?=some y->qO w gO gR j Lx y)
theorem qO.below{w w':World}{gO gR j:Nat}{Lx:List aH}{y:bo}(h:qO w gO gR j Lx y)(hb:Lt w w'):qO w' gO gR j Lx y:=by
 obtain⟨r,h1,h2,h3,h4,h5,h6,h7,h8⟩:=h.ex;exact⟨r,h1,h2,ao hb h3,ao hb h4,ao hb h5,h6.below hb,h7,fun c hc=>(h8 c hc).frame (fun g hg o=>hb.cell (p:=⟨g,o,none⟩) hg) (fun g hg=>KV hg hb.size)⟩
theorem qR.below{w w':World}{T S gO:Nat}{Lx:List aH}{ys:List bo}(h:qR w T S gO Lx ys)(hb:Lt w w'):qR w' T S gO Lx ys:=by
 obtain⟨a,cap,M,h1,h2⟩:=h.ex;exact⟨a,cap,M,(hb.block _ (ag h1)).trans h1,h2.imp (fun e=>e) (fun⟨gR,e,h3⟩=>⟨gR,e,fun j y hj=>(h3 j y hj).below hb⟩)⟩
theorem J5(W:World)(T cY:Nat)(aY:Option Addr):Calls prog 79 #[.pointer (some ⟨T,0,none⟩),.slice aY 0 cY] W fun e w'=>e=.returned (.bool true)/\Lt W w':=by
 go_enter func79,ntmps79;go_wp2_with fail;go_loopg [5,6,8,11,17,18,19] 0 (fun m v5 v6 v8 v11 v17 v18 v19 wr=>v11=.int .i64 0/\wr=W)
 case atStart=>exact⟨rfl,rfl⟩
 case round=>
  obtain⟨rfl,rfl⟩:=hrel;go_wp2_with fail;go_ret;exact⟨rfl,KL _ _⟩
theorem Eo(w:World):(Instr.makeMap 72 none).run prog w=.ok (.map (some w.heap.size)) (w.alloc (.map #[] 0)):=by
 unfold Instr.makeMap;simp[go_sem]
def lT(Lx:List aH)(ifs uns:List Ls)(us:List bB)(ys:List bo):Bool:=decide (ys.length<=200)&&(ke (Lx.map aH.name) [] ys&&ys.all (kZ (gK Lx ifs uns us (ys.map (qz (Lx.map aH.name)))) Lx))
theorem r7(Lx:List Ls):∀(ys:List bo) (acc:List bD),ke Lx acc ys=true->∀y∈ys,0<=ah Lx y.1
 |[],_,_,y,hy=>by simp at hy
 |z::ys,acc,h,y,hy=>by
  rw[ke,Li]at h;rcases List.mem_cons.1 hy with e|e
  ·rw[e]
   have:=h.1;unfold nH at this;simp only[Li,Lc]at this;exact this.1
  ·exact r7 Lx ys _ h.2 y e
section
variable {S:Nat} {vR vO vI vU vN:Value} {LR:List (aj×Value)} {LO:List lF} {LI:List (bC×Value)} {LU:List (bB×Value)} {names:List Ls} {gO:Nat}
theorem Gw(w:World)(h:SV w S vR vO vI vU vN LR LO LI LU names)(hg:∃c,vO=.slice (some ⟨gO,0,none⟩) LO.length c)(aY:Option Addr)(cY:Nat)(ys:List bo)(hY:eM w (.slice aY ys.length cY) ys)(hyl:ys.length<=1000000)(hcl:∀y∈ys,y.2.1.size<=2000000/\y.2.2.length<=900000/\∀c∈y.2.2,c.2.size<=2000000):
 Calls prog 41 #[.pointer (some ⟨S,0,none⟩),.slice aY ys.length cY] w fun e w'=>∃q,e=.returned (.tuple #[.pointer q,.int .i64 (if lT (LO.map Prod.fst) (LI.map iN) (LU.map uN) (LU.map Prod.fst) ys=true then 0 else 3)])/\Lt w w'/\(lT (LO.map Prod.fst) (LI.map iN) (LU.map uN) (LU.map Prod.fst) ys=true->∃T,q=some ⟨T,0,none⟩/\qR w' T S gO (LO.map Prod.fst) ys):=by
 have hmn:(LO.map Prod.fst).map aH.name=LO.map oN:=by rw[List.map_map];rfl
 have HQ:=aa (lT.eq_1 (LO.map Prod.fst) (LI.map iN) (LU.map uN) (LU.map Prod.fst) ys);rw[hmn]at HQ;generalize lT (LO.map Prod.fst) (LI.map iN) (LU.map uN) (LU.map Prod.fst) ys=q at*;obtain⟨ev,HEV⟩:∃ev:Int,Hi (ev=if q=true then 0 else 3):=⟨_,aa rfl⟩;obtain⟨PST,HPST⟩:∃PST:Option Addr->World->Prop,Hi (PST=fun q' X=>q=true->∃T,q'=some ⟨T,0,none⟩/\qR X T S gO (LO.map Prod.fst) ys):=⟨_,aa rfl⟩
 suffices key:Calls prog 41 #[.pointer (some ⟨S,0,none⟩),.slice aY ys.length cY] w fun e w'=>∃q',e=.returned (.tuple #[.pointer q',.int .i64 ev])/\Lt w w'/\PST q' w' by
  refine key.mono ?_;rintro e w' ⟨q',h1,h2,h3⟩;rw[HEV.o]at h1;rw[HPST.o]at h3;exact⟨q',h1,h2,h3⟩
 have RF:=aa (show q=false->∀X,Lt w X->∃q',Ending.returned (Value.tuple #[.pointer none,.int .i64 3])=.returned (.tuple #[.pointer q',.int .i64 ev])/\Lt w X/\PST q' X from fun e X hX=>⟨none,by rw[HEV.o,e];rfl,hX,by rw[HPST.o];exact fun e'=>by rw[e]at e';cases e'⟩);have HY:=aa hY;have HH:=aa h;have HG:=aa hg;have HMN:=aa hmn;have hmm:=Eo;clear h hY hg hmn;by_cases h200:200<ys.length
 ·have HF:=aa (show q=false from by rw[HQ.o,KT (by omega)];rfl)
  have hd:decide ((200:Int)<(ys.length:Int))=true:=by simp;omega
  go_enter func41,ntmps41;go_wp2_with fail;refine bodyPost_ret (v:=.tuple #[.pointer none,.int .i64 3]) (by simp[results,results41,go_sem]) rfl (RF.o HF.o _ ?_);repeat' with_reducible first|exact KL _ _|refine bA ?_ _
 have hd:decide ((200:Int)<(ys.length:Int))=false:=by simp;omega
 rw[Le (show ys.length<=200 by omega)]at HQ;have HQ1:=aa (show q=(ke (LO.map oN) [] ys&&ys.all (kZ (gK (LO.map Prod.fst) (LI.map iN) (LU.map uN) (LU.map Prod.fst) (ys.map (qz (LO.map oN)))) (LO.map Prod.fst)))from HQ.o);clear HQ;obtain⟨qa,HQA⟩:∃qa,Hi (ke (LO.map oN) [] ys=qa):=⟨_,aa rfl⟩;rw[HQA.o]at HQ1;go_enter func41,ntmps41;go_wp2_with fail;have hT1:((w.alloc (.map #[] 0)).alloc (.cells #[.slice none 0 0,.pointer (some ⟨S,0,none⟩),.map (some w.heap.size)] 74)).heap[w.heap.size+1]?=some (.cells #[.slice none 0 0,.pointer (some ⟨S,0,none⟩),.map (some w.heap.size)] 74 (0,0)):=by have:=KS (w.alloc (.map #[] 0)) (.cells #[.slice none 0 0,.pointer (some ⟨S,0,none⟩),.map (some w.heap.size)] 74);simpa using this
 have hM1:ie ((w.alloc (.map #[] 0)).alloc (.cells #[.slice none 0 0,.pointer (some ⟨S,0,none⟩),.map (some w.heap.size)] 74)) w.heap.size 0 (.map []):=(World.ownsMap_made w _ _ _).alloc _;have hB1:Lt w ((w.alloc (.map #[] 0)).alloc (.cells #[.slice none 0 0,.pointer (some ⟨S,0,none⟩),.map (some w.heap.size)] 74)):=bA (bA (KL _ _) _) _;generalize (w.alloc (.map #[] 0)).alloc (.cells #[.slice none 0 0,.pointer (some ⟨S,0,none⟩),.map (some w.heap.size)] 74)=W1 at*;have HST:=aa (show jO W1 (w.heap.size+1) S w.heap.size gO w.heap.size (.slice none 0 0) []from⟨hT1,K7 _ _ _ _,⟨.map [],hM1,PM.nil⟩,List.nodup_nil,by simp⟩);have HB1:=aa hB1;clear hT1 hM1 hB1;have HAA:=aa (GC HH.o HG.o W1 HB1.o HST.o (Nat.le_succ _) (KK _) aY cY ys HY.o (by omega) (fun y hy=>(hcl y hy).1));rw[HQA.o]at HAA;refine HAA.o.mono ?_;rintro _ W2 ⟨rfl,b2,h2⟩;cases qa
 ·have HF:=aa (show q=false from HQ1.o)
  go_wp2_with fail;exact bodyPost_ret (v:=.tuple #[.pointer none,.int .i64 3]) (by simp[results,results41,go_sem]) rfl (RF.o HF.o _ b2)
 obtain⟨vL,hst⟩:=h2 rfl;have HS2:=aa hst;have HB2:=aa b2;clear hst h2 b2 HAA;have HQ2:=aa (show q=ys.all (kZ (gK (LO.map Prod.fst) (LI.map iN) (LU.map uN) (LU.map Prod.fst) (ys.map (qz (LO.map oN)))) (LO.map Prod.fst))from HQ1.o);clear HQ1;by_cases hne:ys=[]
 ·subst hne
  have HT:=aa (show q=true from HQ2.o);go_wp2_with fail;refine(J5 W2 (w.heap.size+1) cY aY).mono ?_;rintro _ W3 ⟨rfl,b3⟩;go_wp2_with fail;refine bodyPost_ret (v:=.tuple #[.pointer (some ⟨w.heap.size+1,0,none⟩),.int .i64 0]) (by simp[results,results41,go_sem]) rfl ⟨some ⟨w.heap.size+1,0,none⟩,by rw[HEV.o,HT.o];rfl,bT HB2.o b3,?_⟩;rw[HPST.o];intro _;obtain⟨a,c,e⟩:=bc HS2.o.r;have hb:=(b3.block _ (ag HS2.o.b)).trans HS2.o.b;rw[e]at hb;exact⟨_,rfl,⟨a,c,_,hb,Or.inl rfl⟩⟩
 obtain⟨y0,hy0⟩:∃y0,ys[0]?=some y0:=by
  cases ys with
  |nil=>exact absurd rfl hne
  |cons y l=>exact⟨y,rfl⟩
 obtain⟨gR,cap,hvL,_,_,_⟩:=HS2.o.at (show(ys.map (qz (LO.map oN)))[0]?=some (qz (LO.map oN) y0)by rw[La,hy0];rfl);subst hvL;have hzr:∀(j:Nat) (r:bD),(ys.map (qz (LO.map oN)))[j]?=some r->∃y,ys[j]?=some y/\r=qz (LO.map oN) y:=fun j r hj=>by
  rw[La]at hj;obtain⟨y,h1,h2⟩:=Option.map_eq_some_iff.1 hj;exact⟨y,h1,h2.symm⟩
 have hzm:∀r∈ys.map (qz (LO.map oN)),∃y∈ys,r=qz (LO.map oN) y:=fun r hr=>by
  obtain⟨y,h1,h2⟩:=List.mem_map.1 hr;exact⟨y,h1,h2.symm⟩
 have HFS:=aa (show FS W2 (w.heap.size+1) S w.heap.size gO w.heap.size W2.heap.size gR cap (ys.map (qz (LO.map oN)))from
  {s:=HS2.o
   t:=ag HS2.o.b
   g:=ep HS2.o.r gR rfl
   b:=KK _
   c:=fun j r hj=>by obtain⟨y,_,e⟩:=hzr j r hj;subst e;exact K7 _ _ _ _
   d:=fun i j r r' _ hi _ k hk=>by obtain⟨y,_,e⟩:=hzr i r hi;subst e;cases hk
   f:=fun r hr c hc=>by obtain⟨y,_,e⟩:=hzm r hr;subst e;simp[qz]at hc
   v:=fun r hr c hc=>by obtain⟨y,_,e⟩:=hzm r hr;subst e;simp[qz]at hc})
 have hids:=r7 _ ys [] HQA.o;have HFA:=aa (IV HH.o HG.o W2 HB2.o HFS.o HB2.o.size aY cY ys HY.o (by omega) (Ll _) (fun r hr=>by
  obtain⟨y,hy,e⟩:=hzm r hr;subst e;have h1:=hids y hy;have h2:=(l8 (LO.map oN) y.1).2;rw[Ll]at h2;show(ah (LO.map oN) y.1).toNat<LO.length;omega) (fun j r y hj hy=>by
  obtain⟨y',h1,e⟩:=hzr j r hj;rw[hy]at h1;have e1:=KY h1;subst e1 e;exact⟨rfl,by rw[HMN.o];rfl⟩) (fun y hy=>(hcl y hy).2))
 rw[<-HQ2.o]at HFA;clear hzr hzm hids hy0;go_wp2_with fail;refine HFA.o.mono ?_;rintro _ W3 ⟨rfl,b3,h3⟩;cases q
 ·go_wp2_with fail
  exact bodyPost_ret (v:=.tuple #[.pointer none,.int .i64 3]) (by simp[results,results41,go_sem]) rfl (RF.o trivial _ b3)
 ·obtain⟨rows,hf,NX,hca⟩:=h3 rfl
  go_wp2_with fail;refine bodyPost_ret (v:=.tuple #[.pointer (some ⟨w.heap.size+1,0,none⟩),.int .i64 0]) (by simp[results,results41,go_sem]) rfl ⟨some ⟨w.heap.size+1,0,none⟩,by rw[HEV.o];rfl,b3,?_⟩;rw[HPST.o];intro _;have hrl:rows.length=ys.length:=by have:=congrArg List.length NX;simpa using this
  have hb:=hf.s.b;rw[hrl]at hb;refine⟨_,rfl,⟨_,_,_,hb,Or.inr ⟨gR,rfl,fun j y hj=>?_⟩⟩⟩;have hjl:j<rows.length:=by rw[hrl];exact(KO.1 hj).1
  obtain⟨r,hr⟩:∃r,rows[j]?=some r:=⟨_,KM hjl⟩;obtain⟨g1,c1,e1,r0,r1,r2⟩:=hf.s.at hr;have eg:=(Addr.mk.inj (KY (Value.slice.inj e1).1)).1;subst eg;have hkj:jQ r=jQ (qz (LO.map oN) y):=by
   have e:(rows.map jQ)[j]?=((ys.map (qz (LO.map oN))).map jQ)[j]?:=by rw[NX]
   rw[La,hr,La,La,hj]at e;exact KY e
  have hk1:r.k=(ah (LO.map oN) y.1).toNat:=congrArg Prod.fst hkj;have hk2:r.id=y.2.1:=congrArg Prod.snd hkj;exact⟨r,by rw[HMN.o];exact hk1,hk2,r0,by rw[<-hk2];exact r1,r2,hf.cells hr,hca j r y hr hj,fun c hc=>(hf.v r (KN hr) c hc).frame (fun _ _ _=>rfl) (fun g hg=>hg.2.1)⟩
end
def ma(z:List (Ls×Bool)):List Ls:=(z.filter (·.2)).map (·.1)
def fW(Lu:List aj)(LK:Ls):List Ls:=if ah (Lu.map aj.name) LK<0 then []else LK::ma ((Lu.map aj.name).zip (dV Lu (2*Lu.length+1) ([(ah (Lu.map aj.name) LK).toNat],List.replicate Lu.length false)))
section
variable {w:World} {S:Nat} {vR vO vI vU vN:Value} {LR:List (aj×Value)} {LO:List lF} {LI:List (bC×Value)} {LU:List (bB×Value)} {names:List Ls}
theorem Dx(h:SV w S vR vO vI vU vN LR LO LI LU names)(hnd:(LR.map rN).Nodup)(Nd:∀x∈LR,∀y∈x.1.LA,y∈LR.map rN/\y.size<=4000)(hsz:∀y∈LR.map rN,y.size<=4000)(LK:Ls)(hr:LK.size<=2000000):
 Calls prog 42 #[.pointer (some ⟨S,0,none⟩),.string LK] w fun e w'=>∃v,e=.returned v/\cH w' v (fW (LR.map Prod.fst) LK)/\(fW (LR.map Prod.fst) LK).length<=1000/\Lt w w':=by
 obtain⟨i0,hi,hz0,hz1,hz2⟩:=info_parts info9';have hmn:(LR.map Prod.fst).map aj.name=LR.map rN:=by rw[List.map_map];rfl
 have HQ:=aa (fW.eq_1 (LR.map Prod.fst) LK);rw[hmn,Ll]at HQ;have hlr:=h.lr;have HP:=aa (yJ w vR (LR.map rN) h.shapedR (by simp;omega) hsz);have HH:=aa h;have MD:=vk LK (by unfold maxLen;omega);have HIN:=aa (fun X (hX:Lt w X) Ms M nM D hM hpm hp=>Bg X S vR vO vI vU vN LR LO LI LU names Ms M nM D (h.below hX) hM hpm hnd Nd hp);have cS:=ae h.sc;have hlS:=ag h.sc;have HND:=aa hnd;obtain⟨aR,cR,hvR⟩:=bc h.r.own;subst hvR;clear h hnd Nd hsz hmn;generalize fW (LR.map Prod.fst) LK=hd1 at*;by_cases hneg:ah (LR.map rN) LK<0
 ·rw[K9 hneg]at HQ
  have hm:=pO LK (LR.map rN) (fun e=>by have:=un _ _ e;omega);clear hneg;go_enter func42,ntmps42;go_wp2_with fail;refine HP.o.mono ?_;rintro _ w1 ⟨M,D,rfl,_,LJ,hpm,b1⟩;have M7:=hpm.hasP LK;rw[hm]at M7;go_wp2_with (at_lookup;refine wpList_lookup_own_ok_int _ rfl _ _ 72 rfl 9 3 .i64 jn underlying72 underlying3 (me _) M _ D rfl LJ _ _ rfl MD ?_;intro c hat hwc;rw[M7]);go_ret;exact⟨_,rfl,by rw[HQ.o];exact⟨none,0,rfl,KK _,Or.inl rfl⟩,by rw[HQ.o];simp,b1⟩
 rw[K8 hneg]at HQ;obtain⟨j,r,hj,hrj,hid,hjl⟩:=iW rN LR LK hneg;have MU:LK∈LR.map rN:=List.mem_map.2 ⟨r,KN hrj,hid⟩;have hm:=(ii LK _).2 MU;rw[hj,Lk]at HQ;have HJ:=aa hj;clear hneg hid hrj hj;go_enter func42,ntmps42;go_wp2_with fail;refine HP.o.mono ?_;rintro _ w1 ⟨M,D,rfl,_,LJ,hpm,b1⟩;have M7:=hpm.hasP LK;rw[hm]at M7;obtain⟨j',hj',hjv⟩:=hpm.val LK MU;have ejj:j'=j:=by have:=o6 _ LK j' HND.o hj';have:=HJ.o;omega
 subst ejj;have HB1:=aa b1;have HO1:=aa LJ;have HPM:=aa hpm;clear b1 hj' hpm HP MU;go_wp2_with (at_lookup;refine wpList_lookup_own_ok_int _ rfl _ _ 72 rfl 9 3 .i64 jn underlying72 underlying3 (me _) M _ D rfl LJ _ _ rfl MD ?_;intro c hat hwc;rw[M7];rw[hjv]at hat;simp only[DataW.lit.injEq,Lit.int.injEq,true_and]at hat;subst hat);have hN:=KS w1 (.cells #[.string LK] 9);have hb:=bA (KL w1.heap.size w1) (.cells #[.string LK] 9);generalize w1.alloc (.cells #[.string LK] 9)=w2 at*;have HN:=aa hN;have HB2:=aa hb;have hlN:=ag hN;refine(HIN.o w2 (bT HB1.o hb) j' M LR.length D (HO1.o.below hb|>fun q=>by simpa using q) HPM.o hjl).mono ?_;rintro _ w3 ⟨rfl,hbl,b3⟩;have hbsl:(dV (LR.map Prod.fst) (2*LR.length+1) ([j'],List.replicate LR.length false)).length=LR.length:=zT _ LR.length _ rfl 0 _ (by simp);generalize dV (LR.map Prod.fst) (2*LR.length+1) ([j'],List.replicate LR.length false)=bs at*;have HBL:=aa hbl;have HB3:=aa b3;have hN3:=aa ((b3.block _ hlN).trans HN.o);have hw12:w1.heap.size<w2.heap.size:=hlN;have HBA:=aa (bT (bT HB1.o HB2.o) b3);have hs3:=b3.size;have hlb:=ag hbl;have hs1:=HB1.o.size;have HBS:=aa hbsl;clear hbl b3 hN hb HIN LJ cS MD hjv M7 hm;go_wp2_with fail;go_loopg [8,9,10,31] LR.length (fun m v8 v9 v10 v31 wr=>∃(i:Nat) (l:List Ls),v31=.int .i64 i/\i<=LR.length/\LR.length-i<=m/\wr.ownsRow w1.heap.size 9 1 v8 l.length (bt l)/\l.length<=i+1/\l=LK::ma (((LR.map rN).zip bs).take i)/\Lt w wr/\wr.heap[w2.heap.size]?=some (.cells (lL bs).toArray 4 (0,0)))
 case atStart=>exact⟨0,[LK],rfl,KU _,KK _,⟨rfl,Or.inr ⟨w1.heap.size,1,_,rfl,KK _,hN3.o,KK _,by decide,rfl,rfl⟩⟩,KK _,rfl,HBA.o,HBL.o⟩
 case round=>
  obtain⟨i,l,rfl,hil,hm,LJ,hll,hl,hb,hbl⟩:=hrel;obtain⟨aL,cL,hvL⟩:=bc LJ;subst hvL;have HOW:=aa LJ;have HL:=aa hl;have HBB:=aa hb;have HBL2:=aa hbl;have MM:=hb.size;by_cases hlt:i<LR.length
  ·have hx:=KM hlt
   generalize LR[i]=x at hx;obtain⟨gR,cap,hv,hc⟩:=HH.o.r.cell (fun _=>rfl) i x hx;have e1:=(Value.slice.inj hv).1;subst e1;have x0:wr.cell? ⟨gR,i*2,none⟩=some (.string (rN x)):=ao hb (show w.cell? ⟨gR,i*2,none⟩=some (.string x.1.name)from by simpa using hc 0 _ rfl);have hgR:gR<wr.heap.size:=KQ wr _ x0;have cS:=fun k=>(hb.cell (p:=⟨S,k,none⟩) hlS).trans (ae HH.o.sc k);have hlS2:S<wr.heap.size:=KV hlS hb.size;obtain⟨bi,hbi⟩:∃bi,bs[i]?=some bi:=⟨_,KM (by rw[HBS.o];exact hlt)⟩;have cb:wr.cell? ⟨w2.heap.size,i,none⟩=some (.bool bi):=by rw[ae hbl i];simp[lL,hbi]
   have hlb2:=ag hbl;have HTK:=aa (show ma (((LR.map rN).zip bs).take (i+1))=ma (((LR.map rN).zip bs).take i)++(if bi=true then [rN x]else [])from by
    rw[Ld,show((LR.map rN).zip bs)[i]?=some (rN x,bi)from by rw[List.getElem?_zip_eq_some];exact⟨by rw[La,hx];rfl,hbi⟩];unfold ma;rw[List.filter_append,Lr];cases bi<;>rfl)
   clear LJ hl hb hbl hc hv hbi hx;cases bi
   ·go_wp2_with fail
    go_roundg (LR.length-(i+1))
    case measure=>omega
    case rel=>exact⟨i+1,l,by go_num,by omega,KK _,HOW.o,by omega,by rw[HL.o,HTK.o];simp,HBB.o,HBL2.o⟩
   ·have hll2:l.length<=805:=by omega
    go_wp2_with (at_builtin;refine wpList_append_lies _ rfl _ _ 50 rfl w1.heap.size 9 i0 _ 1 16 underlying50 hi hz0 hz1 hz2 rfl (by decide) _ _ _ rfl (HOW.o.alloc _) ⟨wr.heap.size,0,none⟩ 1 1 [.string (rN x)] rfl rfl (cell_one_new _ _ _) (fun u hu=>by simp at hu;subst hu;rfl) (by decide) (by unfold maxLen;omega) (by omega) (by simp;omega) (wr.heap.size+1) (by simp) ?_;intro g' LM x3 hown' hgrow hwh hgs;have Mq:=aa hown';have LT:=aa hgrow;clear hown' hgrow);have hgz:=LT.o.size;simp at hgz;go_roundg (LR.length-(i+1))
    case measure=>omega
    case rel=>
     have hne:∀k,k<w.heap.size->Option.some k≠(Value.slice aL l.length cL).ownBlock:=fun k hk=>xn HOW.o (by omega);refine⟨i+1,l++[rN x],by go_num,by omega,KK _,by rw[rS,Lb];exact Mq.o,by simp;omega,?_,⟨LT.o.os.trans HBB.o.os,LT.o.tape.trans HBB.o.tape,LT.o.output.trans HBB.o.output,by omega,fun k hk=>(LT.o.block k (by simp;omega) (hne k hk)).trans ((bp _ _ _ (by omega)).trans (HBB.o.block k hk))⟩,?_⟩
     ·rw[HTK.o,HL.o];simp
     exact(LT.o.block _ (by simp;omega) (jP HOW.o HBL2.o (by decide))).trans ((bp _ _ _ hlb2).trans HBL2.o)
  ·have hie:i=LR.length:=by omega
   subst hie;have HE:=aa (show hd1=l from by rw[HQ.o,HL.o,KW (by rw[List.length_zip,Ll,HBS.o];omega)]);clear LJ hb hbl hl;go_wp2_with fail;go_ret;exact⟨_,rfl,by rw[HE.o];exact cH.of_own HOW.o,by rw[HE.o];omega,HBB.o⟩
end
end Go.Proofs.YtgbloieahmkcjaaGreat
