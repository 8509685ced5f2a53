import Derived.Test.YtogdodlibkckkaaGreatDoorZ20
import Derived.Test.YtogdodlibkckkaaGreatDoorZ18
import Derived.Deep.RegionHeld3
import Derived.Deep.AppendLies
import Derived.Deep.DrawnRows
import Derived.Deep.RegionLaw
namespace Go.Proofs.YtogdodlibkckkaaGreatDoor
set_option maxHeartbeats 20000000
set_option maxRecDepth 100000
open Go.RowKit Tryz
def DS(objs:List Aq)(ifs uns:List yF)(us:List Aw)(rows:List AE)(c id:yF):Bool:=if AB (objs.map Aq.name) ifs uns c<=1 then false else if Af (rows.map AE.id) id<0 then true else match rows[(Af (rows.map AE.id) id).toNat]? with
 |some r=>(match objs[r.k]? with|some o=>!(o.name.toList==[81,117,101,114,121])&&AW o us c|none=>false)
 |none=>false
section
variable {w0 w:World} {S:Nat} {vR vO vI vU vN:Value} {LR:List (Au×Value)} {LO:List AX} {LI:List (At×Value)} {LU:List (Aw×Value)} {names:List yF} {T M gO B:Nat} {vL:Value} {rows:List AE}
theorem nJ(E:SV w S vR vO vI vU vN LR LO LI LU names)(P:∃c,vO=.slice (some ⟨gO,0,none⟩) LO.length c)(h:EL w T S M gO B vL rows)(Q:∀r∈rows,r.k<LO.length)(id c:yF)(hid:id.size<=maxLen):
 Calls prog 195 #[.pointer (some ⟨T,0,none⟩),.string id,.string c] w fun e w'=>e=.returned (.bool (DS (LO.map Prod.fst) (LI.map iN) (LU.map uN) (LU.map Prod.fst) rows c id))/\yG w w':=by
 have L:=Ac h.b;have ag:=Ab h.b;have s:=Aa (Pg w S vR vO vI vU vN LR LO LI LU names c E);have n:=Aa (fun W (F:yG w W)=>SN (h.below F) id hid);have f:=Aa (DS.eq_1 (LO.map Prod.fst) (LI.map iN) (LU.map uN) (LU.map Prod.fst) rows c id);rw[show(LO.map Prod.fst).map Aq.name=LO.map oN from by rw[List.map_map];rfl]at f;have I:=Aa E;have Z:=Aa h;have ah:=h.l;clear E h;generalize DS (LO.map Prod.fst) (LI.map iN) (LU.map uN) (LU.map Prod.fst) rows c id=q at*;generalize AB (LO.map oN) (LI.map iN) (LU.map uN) c=p at*;by_cases v:p<=1
 ·rw[xH v]at f
  rcases(show p=0\/p=1 by omega)with e|e;all_goals(
   subst e;clear v;go_enter func195,ntmps195;go_wp2_with fail;refine s.o.mono ?_;rintro _ w1 ⟨rfl,a⟩;go_wp2;go_ret;exact⟨Al f.o.symm,a⟩)
 rw[xG v]at f;have ai:((p:Int)==0)=false:=by rw[beq_eq_false_iff_ne];omega
 have aj:((p:Int)==1)=false:=by rw[beq_eq_false_iff_ne];omega
 clear v;by_cases i:Af (rows.map AE.id) id<0
 ·rw[xH i]at f
  have m:=Aa (show AC vL 3 (Af (rows.map AE.id) id)=.pointer none from by unfold AC;rw[xH i]);rw[m.o]at n;clear m i;go_enter func195,ntmps195;go_wp2_with fail;refine s.o.mono ?_;rintro _ w1 ⟨rfl,a⟩;have B1:=Aa a;clear a;go_wp2_with fail;refine(n.o _ B1.o).mono ?_;rintro _ w' ⟨rfl,d⟩;have d:=d.symm;subst d;go_wp2;go_quiet (fail);go_wp2;go_ret;exact⟨Al f.o.symm,below_drewN B1.o _⟩
 ·rw[xG i]at f
  obtain⟨j,r,G,z,_,af⟩:=Cu AE.id rows id i;obtain⟨N,cap,U,D,_,_⟩:=Z.o.at z;have ad:=Q r (wT z);obtain⟨x,A⟩:∃x,LO[r.k]?=some x:=⟨_,wS ad⟩;have m:=Aa (show AC vL 3 (Af (rows.map AE.id) id)=.pointer (some ⟨N,j*3,none⟩)from by rw[G,U];unfold AC;rw[xG (by omega)];rfl);rw[m.o]at n;have t:=Aa (show q=(!(x.1.name.toList==[81,117,101,114,121])&&AW x.1 (LU.map Prod.fst) c)from by rw[f.o,G,xS,z];simp only[xI,A,Option.map_some]);have Y:=Aa (fun W (F:yG w W)=>Sq (I.o.below F) r.k x A c gO P);obtain⟨g,ae,H,O⟩:=I.o.o.cell (fun _=>rfl) r.k x A;obtain⟨c0,R⟩:=P;rw[R]at H;have ab:=(Addr.mk.inj (xD (Value.slice.inj H).1)).1;subst ab;have C:w.cell? ⟨gO,r.k*4,none⟩=some (.string x.1.name):=by simpa using O 0 _ rfl
  generalize AW x.1 (LU.map Prod.fst) c=ak at*;generalize x.1.name=X at*;clear m f O H R A z G U i Q;cases K:(X.toList==[81,117,101,114,121])
  rotate_left
  ·rw[K]at t
   go_enter func195,ntmps195;go_wp2_with fail;refine s.o.mono ?_;rintro _ w1 ⟨rfl,a⟩;have B1:=Aa a;have D:=Ah a D;have C:=Ah a C;clear a;go_wp2_with fail;refine(n.o _ B1.o).mono ?_;rintro _ w' ⟨rfl,d⟩;have d:=d.symm;subst d;go_wp2;go_quiet (fail);go_wp2;go_ret;exact⟨Al t.o.symm,below_drewN B1.o _⟩
  ·rw[K]at t
   go_enter func195,ntmps195;go_wp2_with fail;refine s.o.mono ?_;rintro _ w1 ⟨rfl,a⟩;have B1:=Aa a;have J:=Aa (fun V (y:yG w1 V)=>xZ y (xZ (Ah y (Ah a D)) (xZ (Ah y (Ah a C)) (Ah y (Ah a (show w.cell? ⟨T,1,none⟩=some (.pointer (some ⟨S,0,none⟩))from L 1))))));clear a L D C;go_wp2_with fail;refine(n.o _ B1.o).mono ?_;rintro _ w' ⟨rfl,d⟩;have d:=d.symm;subst d;go_wp2;go_region_held3 (fun V=>yG w1 V/\V.cell? ⟨N,j*3,none⟩=some (.pointer (some ⟨gO,r.k*4,none⟩))/\V.cell? ⟨gO,r.k*4,none⟩=some (.string X)/\V.cell? ⟨T,1,none⟩=some (.pointer (some ⟨S,0,none⟩)))
    (first|exact J.o _ (wR _ _).drew|exact J.o _ (bT u aa))
    (first|(go_at_call 217;obtain⟨u, -⟩:= ‹yG w1 _/\_›;refine(Y.o _ (bT B1.o u)).mono ?_;rintro _ w2 ⟨rfl,aa⟩))
   all_goals(obtain⟨u, -⟩:= ‹yG w1 _/\_›;(try go_wp2_with fail);go_ret;exact⟨Al (by rw[t.o];rfl),bT B1.o u⟩)
end
def Fq:Nat->RV->Prop
 |0,.mk sh _ s l=>sh<=6/\s.size<=4000/\l=[]
 |k+1,.mk sh _ s l=>sh<=6/\s.size<=4000/\l.length<=803/\∀r∈l,Fq k r
theorem Fq.one{k sh:Nat}{n:Int}{s:yF}{l:List RV}(b:Fq k (.mk sh n s l)):sh<=6/\s.size<=4000/\l.length<=803/\∀r∈l,Fq (k-1) r:=by
 cases k with
 |zero=>have a:sh<=6/\s.size<=4000/\l=[]:=b;exact⟨a.1,a.2.1,by rw[a.2.2];simp,fun r c=>by rw[a.2.2]at c;simp at c⟩
 |succ k=>exact b
def Dh(R:yF->yF->Bool):Bv->RV->Bool
 | .one c _,.mk sh n s _=>if sh=0\/sh=6 then true else if sh=5 then false else if sh=4 then R c s else Jb (Ce (sh,n,s)).1 c
 | .list t _,.mk sh n s l=>if sh=0\/sh=6 then true else if sh=5 then l.all (Dh R t)else if sh=4 then R ⟨#[]⟩ s else Jb (Ce (sh,n,s)).1 ⟨#[]⟩
theorem XS(sh:Nat)(n:Int)(s:yF)(l:List RV):pv (.mk sh n s l)=.mk (Ce (sh,n,s)).1 (Ce (sh,n,s)).2.1 (Ce (sh,n,s)).2.2 (l.map pv):=by rw[pv,Kt]
section
variable {w0:World} {T:Nat} {R:yF->yF->Bool}
def TD(w0:World)(T:Nat)(R:yF->yF->Bool)(a:Bv):Prop:=∀(W:World) (u:Value) (v:FV) (r:RV) (k m B:Nat),yG w0 W->Bx W B u a->Ba W (fun g=>g<W.heap.size) k v (pv r)->Fq m r->
 Calls prog 146 #[.pointer (some ⟨T,0,none⟩),Ct v,u] W fun e w'=>e=.returned (.bool (Dh R a r))/\yG W w'
theorem ZV{t:Bv}(U:TD w0 T R t)(W:World)(u:Value)(v:FV)(sh:Nat)(n:Int)(s:yF)(l:List RV)(k m B:Nat)(P:yG w0 W)(w:Bx W B u t)(x:Ba W (fun g=>g<W.heap.size) k v (.mk sh n s (l.map pv)))(aa:l.length<=803)(H:∀r∈l,Fq m r):
 Calls prog 194 #[.pointer (some ⟨T,0,none⟩),.slice v.la v.ln v.lc,u] W fun e w'=>e=.returned (.bool (l.all (Dh R t)))/\yG W w':=by
 obtain⟨X,rfl⟩:=w.ptr;obtain⟨ai,ag,ah,ad,af,ae⟩:=v;obtain⟨D,E,F,G⟩:=x.parts;simp only[xT]at D E F G⊢;subst G;have O:=Aa x;have M:=Aa w;have L:=Aa H;obtain⟨q,y⟩:∃q,Hi (q=l.all (Dh R t)):=⟨_,Aa rfl⟩;rw[<-y.o];clear x w H D E F;go_enter func194,ntmps194;go_wp2;go_loopg [8,11] l.length (fun m v8 v11 wr=>∃i:Nat,v11=.int .i64 i/\i<=l.length/\l.length-i<=m/\yG W wr/\q=(l.drop i).all (Dh R t))
 case atStart=>exact⟨0,rfl,wZ _,wQ _,wR _ _,y.o⟩
 case round=>
  obtain⟨i,rfl,Z,ab,hb,I⟩:=hrel;have a:=Aa hb;have z:=Aa I;clear hb I;by_cases S:i<l.length
  ·have c:=wS S
   generalize l[i]=r at c;have A:=Aa (show q=(Dh R t r&&(l.drop (i+1)).all (Dh R t))from by rw[z.o,ON c];rfl);obtain⟨V,g,f,e,b,c0,c1,c2,c3,J⟩:=O.o.elem (show(l.map pv)[i]?=some (pv r)by rw[xI,c];rfl);simp only at e;subst e;have Y:g<wr.heap.size:=xA b a.o.size;have c0:=Ah a.o c0;have c1:=Ah a.o c1;have c2:=Ah a.o c2;have c3:=Ah a.o c3;have j:=Aa (fun C (h:yG wr C)=>U C (.pointer (some ⟨X,0,none⟩)) f r V m B (bT (bT P a.o) h) (M.o.stays (Ap.of_below (bT a.o h))) (J.frame (fun g b o=>(bT a.o h).cell (p:=⟨g,o,none⟩) b) (fun g b=>xA b (bT a.o h).size)) (L.o r (wT c)));unfold Ct at j;generalize Dh R t r=qr at*;clear c J b;cases qr
   ·have K:=Aa (show q=false from A.o)
    go_wp2_with fail;refine(j.o _ (bA (wR _ _) _)).mono ?_;rintro _ w1 ⟨rfl,d⟩;go_wp2;go_ret;exact⟨Al K.o.symm,bT (bA a.o _) d⟩
   ·go_wp2_with fail
    refine(j.o _ (bA (wR _ _) _)).mono ?_;rintro _ w1 ⟨rfl,d⟩;have B1:=Aa (bT (bA a.o _) d);clear d;go_wp2;go_roundg (l.length-(i+1))
    case measure=>omega
    case rel=>exact⟨i+1,by go_num,by omega,wQ _,B1.o,A.o⟩
  ·have Q:i=l.length:=by omega
   subst Q;have N:=Aa (show q=true from by rw[z.o,List.drop_length];rfl);go_wp2;go_ret;exact⟨Al N.o.symm,a.o⟩
end
section
variable {w0:World} {T:Nat} {R:yF->yF->Bool}
def QG(w0:World)(T:Nat)(R:yF->yF->Bool):Prop:=∀W,yG w0 W->∀id c:yF,id.size<=maxLen->Calls prog 195 #[.pointer (some ⟨T,0,none⟩),.string id,.string c] W fun e w'=>e=.returned (.bool (R c id))/\yG W w'
theorem Ve(N:QG w0 T R)(W:World)(M:yG w0 W)(m B:Nat)(nm:yF)(E:Value)(st:Bool)(I:W.heap[m]?=some (.cells #[.string nm,.int .i64 B,E,.bool st] 302 (0,0)))(v:FV)(hs:v.s.size<=maxLen)(A:v.sh=7->B=0):
 Calls prog 146 #[.pointer (some ⟨T,0,none⟩),Ct v,.pointer (some ⟨m,0,none⟩)] W fun e w'=>e=.returned (.bool (if v.sh=0\/v.sh=8 then true else if v.sh=7 then false else if v.sh=6 then R nm v.s else Jb v.sh nm))/\yG W w':=by
 obtain⟨a,d,b,g,i,h⟩:=v;simp only[Ct]at hs A⊢;have H:=Ab I;have x:=Ac I;by_cases y:a=0\/a=8
 ·rw[xH y]
  rcases y with e|e;all_goals(
   subst e;go_enter func146,ntmps146;go_wp2;go_ret;exact⟨rfl,bA (wR _ _) _⟩)
 rw[xG y];have F:((a:Int)==0)=false:=by rw[beq_eq_false_iff_ne];omega
 have G:((a:Int)==8)=false:=by rw[beq_eq_false_iff_ne];omega
 clear y;by_cases t:a=7
 ·rw[xH t]
  have e:=A t;subst t e;clear F G A;go_enter func146,ntmps146;go_wp2;go_quiet (fail);go_wp2;go_ret;exact⟨rfl,below_drewN (bA (wR _ _) _) _⟩
 rw[xG t];have L:((a:Int)==7)=false:=by rw[beq_eq_false_iff_ne];omega
 clear t A;by_cases z:a=6
 ·rw[xH z]
  subst z;have K:=Aa (fun w (O:yG W w)=>N w (bT M O) b nm hs);generalize R nm b=q at*;clear F G L;go_enter func146,ntmps146;go_wp2_with fail;have j:=wX W (.cells #[.int .i64 6,.int .i64 d,.string b,.slice g i h] 157);have hb:=bA (wR W.heap.size W) (.cells #[.int .i64 6,.int .i64 d,.string b,.slice g i h] 157);generalize W.alloc (.cells #[.int .i64 6,.int .i64 d,.string b,.slice g i h] 157)=c at*;have r:=Ac j;have D:=Ab j;have u:=Aa hb;have n:=Aa (fun V (l:yG c V)=>xZ l (xZ (fun k=>(l.cell (p:=⟨W.heap.size,k,none⟩) D).trans (r k)) (fun k=>((bT hb l).cell (p:=⟨m,k,none⟩) H).trans (x k))));clear j hb r x;go_region_held3 (fun V=>yG c V/\(∀k,V.cell? ⟨W.heap.size,k,none⟩=(#[.int .i64 6,.int .i64 d,.string b,.slice g i h]:Array Value)[k]?)/\(∀k,V.cell? ⟨m,k,none⟩=(#[.string nm,.int .i64 B,E,.bool st]:Array Value)[k]?))
   (first|exact n.o _ (wR _ _).drew|exact n.o _ (bT f C))
   (first|(go_at_call 195;obtain⟨f, -⟩:= ‹yG c _/\_›;refine(K.o _ (bT u.o f)).mono ?_;rintro _ w2 ⟨rfl,C⟩))
  all_goals(obtain⟨f, -⟩:= ‹yG c _/\_›;(try go_wp2_with fail);go_ret;exact⟨rfl,bT u.o f⟩)
 ·rw[xG z]
  have P:((a:Int)==6)=false:=by rw[beq_eq_false_iff_ne];omega
  have J:=Aa (fun w=>Vw w a d b nm);generalize Jb a nm=q at*;clear z;go_enter func146,ntmps146;go_wp2_with fail;have j:=wX W (.cells #[.int .i64 a,.int .i64 d,.string b,.slice g i h] 157);have hb:=bA (wR W.heap.size W) (.cells #[.int .i64 a,.int .i64 d,.string b,.slice g i h] 157);generalize W.alloc (.cells #[.int .i64 a,.int .i64 d,.string b,.slice g i h] 157)=c at*;have r:=Ac j;have D:=Ab j;have u:=Aa hb;have n:=Aa (fun V (l:yG c V)=>xZ l (xZ (fun k=>(l.cell (p:=⟨W.heap.size,k,none⟩) D).trans (r k)) (fun k=>((bT hb l).cell (p:=⟨m,k,none⟩) H).trans (x k))));clear j hb r x;go_region_held3 (fun V=>yG c V/\(∀k,V.cell? ⟨W.heap.size,k,none⟩=(#[.int .i64 a,.int .i64 d,.string b,.slice g i h]:Array Value)[k]?)/\(∀k,V.cell? ⟨m,k,none⟩=(#[.string nm,.int .i64 B,E,.bool st]:Array Value)[k]?))
   (first|exact n.o _ (wR _ _).drew|exact n.o _ (bT f C))
   (first|(go_at_call 110;obtain⟨f, -⟩:= ‹yG c _/\_›;refine(J.o _).mono ?_;rintro _ w2 ⟨rfl,C⟩))
  all_goals(obtain⟨f, -⟩:= ‹yG c _/\_›;(try go_wp2_with fail);go_ret;exact⟨rfl,bT u.o f⟩)
theorem Ph{sh:Nat}(b:sh<=6)(n:Int)(s:yF):((Ce (sh,n,s)).1=0↔sh=0)/\((Ce (sh,n,s)).1=8↔sh=6)/\((Ce (sh,n,s)).1=7↔sh=5)/\((Ce (sh,n,s)).1=6↔sh=4)/\(Ce (sh,n,s)).2.2.size<=s.size/\(sh=4->(Ce (sh,n,s)).2.2=s):=by
 unfold Ce;dsimp only;split
 ·rename_i a
  have a:sh=3:=a;subst a;split<;>exact⟨by simp,by simp,by simp,by simp,wZ _,fun e=>by omega⟩
 ·split
  ·simp;omega
  ·split
   ·simp;omega
   ·split
    ·simp;omega
    ·simp;omega
theorem qP(af:QG w0 T R):∀X:Bv,TD w0 T R X:=by
 intro X
 induction X with
 |one c st=>
  intro W u v r k m B w Q b y;obtain⟨sh,n,s,l⟩:=r;obtain⟨U,ar,_,_⟩:=y.one;rw[XS]at b;obtain⟨a,_,d,_⟩:=b.parts;obtain⟨z,D,f,C,ag,A⟩:=Ph U n s;obtain⟨h,rfl,_,hb⟩:=Q;refine(Ve af W w h 0 c (.pointer none) st hb v (by rw[d];unfold maxLen;omega) (fun _=>rfl)).mono ?_;rintro _ w' ⟨rfl,J⟩;refine⟨Al ?_,J⟩;rw[a,d];show _=Dh R (.one c st) (.mk sh n s l);rw[Dh];simp only[z,D,f,C];split
  ·rfl
  ·split
   ·rfl
   ·split
    ·rename_i K;rw[A K]
    ·rfl
 |list t st ap=>
  intro W u v r k m B w Q b y;obtain⟨sh,n,s,l⟩:=r;obtain⟨U,ar,au,ah⟩:=y.one;rw[XS]at b;obtain⟨a,ak,d,al⟩:=b.parts;obtain⟨z,D,f,C,ag,A⟩:=Ph U n s;obtain⟨h,ai,rfl,_,hb,S⟩:=Q;by_cases L:sh=5
  ·subst L
   have Y:=Aa (fun ab (x:yG W ab)=>ZV ap ab ai v _ _ _ l k (m-1) B (bT w x) (S.stays (Ap.of_below x)) (b.frame (fun g P o=>x.cell (p:=⟨g,o,none⟩) P) (fun g P=>xA P x.size)) au ah);obtain⟨aq,rfl⟩:=S.ptr;rw[show Dh R (.list t st) (.mk 5 n s l)=l.all (Dh R t)from by rw[Dh];simp];generalize l.all (Dh R t)=q at*;obtain⟨av,H,I,E,G,F⟩:=v;simp only[Ct]at a Y⊢;rw[show av=7 from a];have ao:=Ab hb;have ae:=Ac hb;clear b y ah ak d al A ag z D f C a S;go_enter func146,ntmps146;go_wp2_with fail;have M:=wX W (.cells #[.int .i64 7,.int .i64 H,.string I,.slice E G F] 157);have O:=bA (wR W.heap.size W) (.cells #[.int .i64 7,.int .i64 H,.string I,.slice E G F] 157);generalize W.alloc (.cells #[.int .i64 7,.int .i64 H,.string I,.slice E G F] 157)=i at*;have ad:=Ac M;have am:=Ab M;have Z:=Aa O;have aa:=Aa (fun V (N:yG i V)=>xZ N (xZ (fun k=>(N.cell (p:=⟨W.heap.size,k,none⟩) am).trans (ad k)) (fun k=>((bT O N).cell (p:=⟨h,k,none⟩) ao).trans (ae k))));clear M O ad ae hb;go_region_held3 (fun V=>yG i V/\(∀k,V.cell? ⟨W.heap.size,k,none⟩=(#[.int .i64 7,.int .i64 H,.string I,.slice E G F]:Array Value)[k]?)/\(∀k,V.cell? ⟨h,k,none⟩=(#[.string ⟨#[]⟩,.int .i64 1,.pointer (some ⟨aq,0,none⟩),.bool st]:Array Value)[k]?))
    (first|exact aa.o _ (wR _ _).drew|exact aa.o _ (bT j aj))
    (first|(go_at_call 194;obtain⟨j, -⟩:= ‹yG i _/\_›;refine(Y.o _ (bT Z.o j)).mono ?_;rintro _ w2 ⟨rfl,aj⟩))
   all_goals(obtain⟨j, -⟩:= ‹yG i _/\_›;(try go_wp2_with fail);go_ret;exact⟨rfl,bT Z.o j⟩)
  ·refine(Ve af W w h 1 ⟨#[]⟩ ai st hb v (by rw[d];unfold maxLen;omega) (fun e=>absurd (f.1 (a.symm.trans e)) L)).mono ?_
   rintro _ w' ⟨rfl,J⟩;refine⟨Al ?_,J⟩;rw[a,d];show _=Dh R (.list t st) (.mk sh n s l);rw[Dh];simp only[z,D,f,C,xG L];split
   ·rfl
   ·split
    ·rename_i K;rw[A K]
    ·rfl
end
open Go.Maps Tryz
open Go.ChangeMaps Tryz
theorem pI{a b c:Value}(e:a.oneCell'=true)(f:b.oneCell'=true)(g:c.oneCell'=true):∀u∈[a,b,c],u.oneCell'=true:=by
 intro u d;simp at d;rcases d with rfl|rfl|rfl<;>assumption
def Jy(objs:List yF)(rows:List AE)(a id:yF):Bool:=decide (0<=Af objs a)&&(decide (Af (rows.map AE.id) id<0)&&LZ a id)
theorem info97:(prog.info? 97).map (fun i=>(i.zero,i.size,i.bytes))=some (some (.agg #[.pointer none,.string ⟨#[]⟩,.slice none 0 0]),3,48):=by kernel_rfl
theorem iL(a id:yF):LZ a id=((a.toList==[81,117,101,114,121])==(id.toList==[])):=by
 unfold LZ;rw[BX a,BX id];rfl
section
variable {w0:World} {S:Nat} {vR vO vI vU vN:Value} {LR:List (Au×Value)} {LO:List AX} {LI:List (At×Value)} {LU:List (Aw×Value)} {names:List yF} {T M gO:Nat} {vL:Value} {rows:List AE}
theorem ZN(af:SV w0 S vR vO vI vU vN LR LO LI LU names)(aX:∃c,vO=.slice (some ⟨gO,0,none⟩) LO.length c)(W:World)(ag:yG w0 W)(x:EL W T S M gO w0.heap.size vL rows)(bn:w0.heap.size<=T)(bm:w0.heap.size<=M)(a id:yF)(C:Option Addr)(K E:Nat)(hid:id.size<=2000000)(bu:rows.length<=200):
 Calls prog 90 #[.pointer (some ⟨T,0,none⟩),.agg #[.string a,.string id,.slice C K E]] W fun e w'=>e=.returned (.bool (Jy (LO.map oN) rows a id))/\yG w0 w'/\(Jy (LO.map oN) rows a id=true->∃am,EL w' T S M gO w0.heap.size am (rows++[⟨(Af (LO.map oN) a).toNat,id,.slice none 0 0,[]⟩])):=by
 obtain⟨bb,a1,bd,bf,bg⟩:=info_parts info97;obtain⟨aL,cL,a9⟩:=An x.r;subst a9;have a3:=Ab x.b;have U:=Ac x.b;have d:=Aa (Jy.eq_1 (LO.map oN) rows a id);rw[iL]at d;have aq:=Aa (fun u (F:yG W u)=>NX u S vR vO vI vU vN LR LO LI LU names a (af.below (bT ag F)));have v:=Aa (fun u (F:yG W u)=>SN (x.below F) id (by unfold maxLen;omega));have aG:=Hc af.rowObject a;have aw:=Aa x;have L:=Aa ag;have aP:=Aa (NC id (by unfold maxLen;omega));obtain⟨c0,aM⟩:=aX;have av:=Aa (show¬Af (LO.map oN) a<0->AC vO 4 (Af (LO.map oN) a)=.pointer (some ⟨gO,(Af (LO.map oN) a).toNat*4,none⟩)from fun e=>by rw[aM];unfold AC;rw[xG e]);have ap:=Aa aG.1;clear af x aG aM ag;generalize Jy (LO.map oN) rows a id=q at*;generalize AC vO 4 (Af (LO.map oN) a)=bc at*;generalize Af (LO.map oN) a=Z at*;go_enter func90,ntmps90;go_upto_region 1 with fail;have X:=wX W (.cells #[.string a,.string id,.slice C K E] 38);have hb:=bA (wR W.heap.size W) (.cells #[.string a,.string id,.slice C K E] 38);generalize W.alloc (.cells #[.string a,.string id,.slice C K E] 38)=A at*;have R:=Ac X;have a2:=Ab X;have bh:=Aa X;have ao:=Aa hb;have O:=Aa (fun V (ai:yG A V)=>xZ ai (xZ (fun k=>(ai.cell (p:=⟨W.heap.size,k,none⟩) a2).trans (R k)) (fun k=>((bT hb ai).cell (p:=⟨T,k,none⟩) a3).trans (U k))));clear X hb R U;go_cut [5] (fun v5 wc=>v5=bc/\yG A wc)
 case first=>
  go_region_held3 (fun V=>yG A V/\(∀k,V.cell? ⟨W.heap.size,k,none⟩=(#[.string a,.string id,.slice C K E]:Array Value)[k]?)/\(∀k,V.cell? ⟨T,k,none⟩=(#[.slice aL rows.length cL,.pointer (some ⟨S,0,none⟩),.map (some M)]:Array Value)[k]?))
   (first|exact O.o _ (wR _ _).drew|exact O.o _ (bT Q ae))
   (first|(go_at_call 77;obtain⟨Q, -⟩:= ‹yG A _/\_›;refine(aq.o _ (bT ao.o Q)).mono ?_;rintro _ w2 ⟨rfl,ae⟩))
  all_goals(obtain⟨Q, -⟩:= ‹yG A _/\_›;(try go_wp2_with fail);go_meet;exact⟨rfl,Q⟩)
 case rest=>
  obtain⟨rfl,aj⟩:=hcut;obtain⟨_,R,U⟩:=O.o _ aj;have t:=Aa (bT ao.o aj);clear aj O aq;by_cases h:Z<0
  ·have e:=ap.o h
   subst e;have l:=Aa (show q=false from by rw[d.o,wY (by omega)];rfl);clear d;go_wp2;go_ret;exact⟨Al l.o.symm,bT L.o t.o,fun e=>by rw[l.o]at e;cases e⟩
  have e:=av.o h;subst e;rw[xM (show 0<=Z by omega)]at d;have d:=Aa (show q=(decide (Af (rows.map AE.id) id<0)&&((a.toList==[81,117,101,114,121])==(id.toList==[])))from d.o);clear ap av;by_cases J:Af (rows.map AE.id) id<0
  rotate_left
  ·obtain⟨j,r,aF,aK,_,br⟩:=Cu AE.id rows id J
   obtain⟨aC,cap,e,_,_,_⟩:=aw.o.at aK;rw[e,aF]at v;rw[show AC (.slice (some ⟨aC,0,none⟩) rows.length cap) 3 (j:Int)=.pointer (some ⟨aC,j*3,none⟩)from by unfold AC;rw[xG (by omega)];rfl]at v;have l:=Aa (show q=false from by rw[d.o,wY J];rfl);clear d aF aK e;go_wp2_with fail;refine(v.o _ t.o).mono ?_;rintro _ w' ⟨rfl,f⟩;have f:=f.symm;subst f;go_wp2;go_ret;exact⟨Al l.o.symm,bT L.o t.o,fun e=>by rw[l.o]at e;cases e⟩
  rw[xM J]at d;have d:=Aa (show q=((a.toList==[81,117,101,114,121])==(id.toList==[]))from d.o);rw[show AC (.slice aL rows.length cL) 3 (Af (rows.map AE.id) id)=.pointer none from by unfold AC;rw[xH J]]at v;have aR:=Aa (show id∉rows.map AE.id from fun e=>by have:=Mc _ _ e;omega);clear J;have ab:=Aa (show∀u,yG W u->q=false->yG w0 u/\(q=true->∃am,EL u T S M gO w0.heap.size am (rows++[⟨Z.toNat,id,.slice none 0 0,[]⟩]))from fun u F e=>⟨bT L.o F,fun aA=>by rw[e]at aA;cases aA⟩);cases aU:(id.toList==[])<;>cases ae:(a.toList==[81,117,101,114,121])<;>rw[aU,ae]at d
  case false.true=>
   have l:=Aa (show q=false from d.o);go_wp2_with fail;refine(v.o _ t.o).mono ?_;rintro _ w' ⟨rfl,f⟩;have f:=f.symm;subst f;go_wp2;go_ret;exact⟨Al l.o.symm,ab.o _ t.o l.o⟩
  case true.false=>
   have l:=Aa (show q=false from d.o);go_wp2_with fail;refine(v.o _ t.o).mono ?_;rintro _ w' ⟨rfl,f⟩;have f:=f.symm;subst f;go_wp2;go_ret;exact⟨Al l.o.symm,ab.o _ t.o l.o⟩
  all_goals(
   have aT:=Aa (show q=true from d.o);clear ab d;go_wp2_with fail;refine(v.o _ t.o).mono ?_;rintro _ w' ⟨rfl,f⟩;have f:=f.symm;subst f;go_wp2_with fail;refine(Re id _ hid).mono ?_;rintro _ ad ⟨rfl,ay⟩;have ah:=bT t.o ay;have s:=aw.o.below ah;obtain⟨D,Y,aJ⟩:=s.m;have ba:(Lit.int .i64 (rows.length:Int)).wf=true:=by simp[Lit.wf,IntKind.min,IntKind.max,IntKind.bits,IntKind.signed];omega
   obtain⟨B,a7,aI,I⟩:=Y.drew.update Ci underlying65 (by unfold maxLen;omega) aP.o (plainElem_int (H:=Unit) underlying3 ba);have au:=Aa (aJ.snoc id);rw[xT]at au;have aD:T≠M:=fun e=>by
    obtain⟨es,cl,hb,_⟩:=Y;have:=s.b;rw[e,hb]at this;cases this
   have P:=Aa ((I.block T (Ab s.b) (fun e=>aD (xD e))).trans s.b);have aV:=Ac s.b;have bt:=Ab s.b;have al:∀k,(Value.slice aL rows.length cL).ownBlock=some k->k≠M:=fun k h e=>by
    rcases s.r.2 with⟨y,_⟩|⟨g,cap,bj,a8,_,aE,_⟩
    ·rw[y]at h;cases h
    ·rw[a8]at h
     have aW:=xD (show some g=some k from h);obtain⟨es,cl,hb,_⟩:=Y;rw[aW,e,hb]at aE;cases aE
   have aa:=Aa (show B.ownsRow w0.heap.size 97 3 (.slice aL rows.length cL) rows.length (rows.flatMap (qL gO))from So s.r (fun k h=>I.block k (Ln s.r k h) (fun e=>al k h (xD e))));have aS:=Aa aI;have N:=Aa I;have aO:=Aa ah;have a6:Option.some T≠(Value.slice aL rows.length cL).ownBlock:=EA aa.o P.o (by decide);have a5:Option.some M≠(Value.slice aL rows.length cL).ownBlock:=fun e=>al M e.symm rfl;have aQ:=Aa s.n;have aN:=I.size;clear ay ah aJ Y aI I R U al s;go_wp2;go_region;all_goals(
    clear a7 aV;have bi:=Ac P.o;have a4:=Ab P.o;go_wp2_with (at_builtin;refine wpList_append_lies _ rfl _ _ 63 rfl w0.heap.size 97 bb _ 3 48 underlying63 a1 bd bf bg rfl (by decide) _ _ _ rfl (aa.o.alloc _) ⟨B.heap.size,0,none⟩ 1 1 [.pointer (some ⟨gO,Z.toNat*4,none⟩),.string id,.slice none 0 0] rfl rfl (Cz _ _ _ _ (by simp)) (pI rfl rfl rfl) (by decide) (by unfold maxLen;omega) (by omega) (by simp;omega) (B.heap.size+1) (by simp) ?_;intro aB az bw aH ak bv bq;have G:=(ak.block T (by simp;omega) a6).trans ((AJ _ _ _ a4).trans P.o);have bo:=Ac G;have bp:=Ak G;have bs:=Ab G;have ax:=Aa G;have ar:=Aa aH;have w:=Aa ak;clear G aH ak);go_ret;refine⟨Al aT.o.symm,?_,fun _=>⟨.slice (some ⟨aB,0,none⟩) (rows.length+1) az,?_⟩⟩
    ·have z:=bT L.o aO.o
     have aZ:=w.o.size;simp at aZ;refine⟨w.o.os.trans (N.o.os.trans z.os),w.o.tape.trans (N.o.tape.trans z.tape),w.o.output.trans (N.o.output.trans z.output),by have:=z.size;have:ad.heap.size<=B.heap.size:=aN;simp[World.setCell];omega,fun k h=>?_⟩;have bk:ad.heap.size<=B.heap.size:=aN;have bl:=z.size;exact(xC _ _ _ _ (show k≠T by omega)).trans ((w.o.block k (by simp;omega) (Ms aa.o h)).trans ((AJ _ _ _ (by omega)).trans ((N.o.block k (show k<ad.heap.size by omega) (fun e=>by have:=xD e;omega)).trans (z.block k h))))
    ·have aY:(Value.slice (some ⟨aB,0,none⟩) (rows.length+1) az).ownBlock≠some T:=fun e=>EA ar.o ax.o (by decide) e.symm
     refine⟨AI ax.o 0 _,?_,⟨_,?_,by rw[xY];exact au.o⟩,by rw[xY,List.map_cons,List.map_nil,Py];exact⟨aQ.o,aR.o⟩,by simp;omega⟩
     ·rw[xJ,List.flatMap_append]
      exact Ds ar.o aY 0 _
     ·rw[xJ]
      exact((aS.o.alloc _).kept w.o a5).kept (row:=some T) ⟨rfl,rfl,rfl,by simp[World.setCell],fun i _ a0=>xC _ _ _ _ (fun e=>a0 (by rw[show i=T from e]))⟩ (fun e=>aD (xD e).symm)))
end
def qz(objs:List yF)(y:AY):AE:=⟨(Af objs y.1).toNat,y.2.1,.slice none 0 0,[]⟩
def GQ(objs:List yF):List AE->List AY->Bool
 |_,[]=>true
 |a,y::ys=>Jy objs a y.1 y.2.1&&GQ objs (a++[qz objs y]) ys
section
variable {w0:World} {S:Nat} {vR vO vI vU vN:Value} {LR:List (Au×Value)} {LO:List AX} {LI:List (At×Value)} {LU:List (Aw×Value)} {names:List yF} {T M gO:Nat} {vL:Value}
theorem ZK(B:SV w0 S vR vO vI vU vN LR LO LI LU names)(G:∃c,vO=.slice (some ⟨gO,0,none⟩) LO.length c)(W:World)(D:yG w0 W)(E:EL W T S M gO w0.heap.size vL [])(Y:w0.heap.size<=T)(V:w0.heap.size<=M)(z:Option Addr)(A:Nat)(ys:List AY)(F:Fv w0 (.slice z ys.length A) ys)(aj:ys.length<=200)(hid:∀y∈ys,y.2.1.size<=2000000):
 Calls prog 54 #[.pointer (some ⟨T,0,none⟩),.slice z ys.length A] W fun e w'=>e=.returned (.bool (GQ (LO.map oN) [] ys))/\yG w0 w'/\(GQ (LO.map oN) [] ys=true->∃a,EL w' T S M gO w0.heap.size a (ys.map (qz (LO.map oN)))):=by
 have r:=Aa (fun b (f:yG w0 b) a rows (X:EL b T S M gO w0.heap.size a rows) ad id j ab n=>ZN B G b f X Y V ad id j ab n);have R:=Aa F;have O:=Aa E;have K:=Aa D;obtain⟨q,u⟩:∃q,Hi (q=GQ (LO.map oN) [] ys):=⟨_,Aa rfl⟩;rw[<-u.o];clear B G E D F;generalize LO.map oN=objs at*;go_enter func54,ntmps54;go_wp2;go_loopg [6,9] ys.length (fun m v6 v9 wr=>∃(i:Nat) (a:Value),v9=.int .i64 i/\i<=ys.length/\ys.length-i<=m/\yG w0 wr/\EL wr T S M gO w0.heap.size a ((ys.take i).map (qz objs))/\q=GQ objs ((ys.take i).map (qz objs)) (ys.drop i))
 case atStart=>exact⟨0,vL,rfl,wZ _,wQ _,K.o,O.o,u.o⟩
 case round=>
  obtain⟨i,a,rfl,ah,ai,hb,I,H⟩:=hrel;have g:=Aa hb;have x:=Aa I;have v:=Aa H;clear hb I H;by_cases aa:i<ys.length
  ·have d:=wS aa
   generalize ys[i]=y at d;obtain⟨U,ak,j,n,e,af,al,am,_⟩:=(R.o.below g.o).at d;subst e;have ag:U<wr.heap.size:=wW wr _ af;have h:=Aa (show q=(Jy objs ((ys.take i).map (qz objs)) y.1 y.2.1&&GQ objs ((ys.take i).map (qz objs)++[qz objs y]) (ys.drop (i+1)))from by rw[v.o,ON d];rfl);have w:=Aa (show(ys.take (i+1)).map (qz objs)=(ys.take i).map (qz objs)++[qz objs y]from by rw[xL,d,xY];rfl);have s:=Aa (fun b (f:yG wr b)=>r.o b (bT g.o f) a _ (x.o.below f) y.1 y.2.1 j y.2.2.length n (hid y (wT d)) (by simp;omega));obtain⟨p,N⟩:∃p,Hi (Jy objs ((ys.take i).map (qz objs)) y.1 y.2.1=p):=⟨_,Aa rfl⟩;rw[N.o]at h s;clear d r;go_wp2_with fail;refine(s.o _ (bA (wR _ _) _)).mono ?_;rintro _ w1 ⟨rfl,k,J⟩;cases p
   ·have t:=Aa (show q=false from h.o)
    go_wp2;go_ret;exact⟨Al t.o.symm,k,fun e=>by rw[t.o]at e;cases e⟩
   ·obtain⟨ae,C⟩:=J rfl
    have Q:=Aa C;have L:=Aa k;clear C k J;go_wp2;go_roundg (ys.length-(i+1))
    case measure=>omega
    case rel=>exact⟨i+1,ae,by go_num,by omega,wQ _,L.o,by rw[w.o];exact Q.o,by rw[w.o];exact h.o⟩
  ·have Z:i=ys.length:=by omega
   subst Z;have P:=Aa (show q=true from by rw[v.o,List.drop_length];rfl);go_wp2;go_ret;exact⟨Al P.o.symm,g.o,fun _=>⟨a,by rw[<-List.take_length (l:=ys)];exact x.o⟩⟩
end
attribute [local go_sem ↓] Go.wp_at_zero Go.wp_at_succ
structure FS(w:World)(T S M gO B0 B1 gR cR:Nat)(rows:List AE):Prop where
 s:EL w T S M gO B0 (.slice (some ⟨gR,0,none⟩) rows.length cR) rows
 t:T<B1
 g:gR<B1
 b:B1<=w.heap.size
 c:∀(j:Nat) (r:AE),rows[j]?=some r->w.ownsRow B1 159 6 r.v r.cs.length (r.cs.flatMap Lq)
 d:∀(i j:Nat) (r r':AE),i≠j->rows[i]?=some r->rows[j]?=some r'->∀k,r.v.ownBlock=some k->r'.v.ownBlock≠some k
 f:∀r∈rows,∀c∈r.cs,c.g<B0/\Cn w c.g c.o c.f c.u
 v:∀r∈rows,∀c∈r.cs,Ba w (fun k=>B1<=k/\k<w.heap.size/\∀r'∈rows,r'.v.ownBlock≠some k) 1603 c.c (pv (CZ c.t))
 lc:∀r∈rows,∀c∈r.cs,c.c.ln<=c.c.lc
theorem Cn.below'{w w':World}{g o:Nat}{f:Am}{u:Value}(a:Cn w g o f u)(hb:∀k,w'.cell? ⟨g,k,none⟩=w.cell? ⟨g,k,none⟩):Cn w' g o f u:=
 ⟨(hb _).trans a.c0,(hb _).trans a.c1,(hb _).trans a.c2,(hb _).trans a.c3,(hb _).trans a.c4,(hb _).trans a.c5⟩
section
variable {w w':World} {T S M gO B0 B1 gR cR:Nat} {rows:List AE}
theorem FS.below(a:FS w T S M gO B0 B1 gR cR rows)(hb:yG w w'):FS w' T S M gO B0 B1 gR cR rows where
 s:=a.s.below hb
 t:=a.t
 g:=a.g
 b:=wV a.b hb.size
 c:=fun j r l=>AT (a.c j r l) hb
 d:=a.d
 f:=fun r i c e=>⟨(a.f r i c e).1,(a.f r i c e).2.below' (fun k=>hb.cell (p:=⟨c.g,k,none⟩) (wW w ⟨c.g,c.o,none⟩ (a.f r i c e).2.c0))⟩
 v:=fun r i c e=>(a.v r i c e).frame (fun g h o=>hb.cell (p:=⟨g,o,none⟩) h.2.1) (fun _ h=>⟨h.1,xA h.2.1 hb.size,h.2.2⟩)
 lc:=a.lc
theorem FS.cells(e:FS w T S M gO B0 B1 gR cR rows){j:Nat}{r:AE}(l:rows[j]?=some r):Gn w r.v r.cs:=by
 have d:=e.c j r l;have s:∀c∈r.cs,Cn w c.g c.o c.f c.u:=fun c a=>(e.f r (wT l) c a).2;rcases d.2 with⟨b,h⟩|⟨g,cap,y,b,A,B,C,_⟩
 ·exact⟨none,0,by rw[b,h],by omega,Or.inl (xE h)⟩
 ·refine⟨some ⟨g,0,none⟩,cap,b,by omega,Or.inr ⟨g,0,rfl,fun i c a=>⟨fun k t=>?_,s c (wT a)⟩⟩⟩
  rw[b]at d;have:=BV.cell (ok:=fun _ _=>True) (flat:=Lq) ⟨d,fun _ _=>trivial⟩ (fun _=>rfl) i c a;obtain⟨z,x,n,q⟩:=this;have p:=(Addr.mk.inj (xD (Value.slice.inj n).1)).1;subst p;rw[show 0+i*6+k=i*6+k by omega];have m:k<(Lq c).length:=t;rw[wS m];exact q k _ (wS m)
theorem Vf(v':Value)(b:List BU):∀(rows:List AE) (i:Nat) (r:AE),rows[i]?=some r->(rows.set i ⟨r.k,r.id,v',b⟩).flatMap (qL gO)=(rows.flatMap (qL gO)).set (i*3+2) v'
 |[],_,_,a=>by simp at a
 |x::l,0,r,a=>by
  simp at a;subst a;simp[qL]
 |x::l,i+1,r,a=>by
  rw[List.set_cons_succ,List.flatMap_cons,List.flatMap_cons,Vf v' b l i r (by simpa using a)];rw[show(i+1)*3+2=i*3+2+1+1+1 by omega];simp[qL]
theorem FS.push{x:World}{i A F:Nat}{r:AE}{c:BU}{o:Obj}(h:FS w T S M gO B0 B1 gR cR rows)(E:rows[i]?=some r)(O:(w.alloc o).grownBy x r.v.ownBlock)
 (aq:x.ownsRow B1 159 6 (.slice (some ⟨A,0,none⟩) (r.cs.length+1) F) (r.cs.length+1) (r.cs.flatMap Lq++Lq c)) (Q:r.v.ownBlock=some A\/w.heap.size<=A)
 (al:c.g<B0/\Cn w c.g c.o c.f c.u) (_hB:B0<=B1) (L:Ba w (fun k=>B1<=k/\k<w.heap.size/\∀z∈rows,z.v.ownBlock≠some k) 1603 c.c (pv (CZ c.t))) (ap:c.c.ln<=c.c.lc):
 FS (x.setCell ⟨gR,i*3+2,none⟩ (.slice (some ⟨A,0,none⟩) (r.cs.length+1) F)) T S M gO B0 B1 gR cR (rows.set i ⟨r.k,r.id,.slice (some ⟨A,0,none⟩) (r.cs.length+1) F,r.cs++[c]⟩):=by
 have ar:=O.size;simp at ar;have P:∀k,r.v.ownBlock=some k->B1<=k:=fun k p=>Mr (h.c i r E) k p;have K:i<rows.length:=(wU.1 E).1;have ax:=h.b;have au:=h.t;have ao:=h.g;have low:∀k,k<w.heap.size->r.v.ownBlock≠some k->k≠gR->(x.setCell ⟨gR,i*3+2,none⟩ (.slice (some ⟨A,0,none⟩) (r.cs.length+1) F)).heap[k]?=w.heap[k]?:=fun k p ah ai=>
  (xC _ _ _ _ ai).trans ((O.block k (by simp;omega) (fun e=>ah e.symm)).trans (AJ _ _ _ p))
 have ak:T≠gR:=fun e=>by
  have:=EA h.s.r h.s.b (by decide);exact this (by rw[e];rfl)
 obtain⟨D,X,aj⟩:=h.s.m;have ae:M≠gR/\r.v.ownBlock≠some M:=by
  obtain⟨es,cl,hb,_⟩:=X;constructor
  ·intro e
   rcases h.s.r.2 with⟨y,_⟩|⟨g,cap,af,L,_,J,_⟩
   ·cases y
   ·have U:=(Addr.mk.inj (xD (Value.slice.inj L).1)).1
    rw[<-U,<-e,hb]at J;cases J
  ·intro e
   rcases(h.c i r E).2 with⟨y,_⟩|⟨g,cap,af,L,_,J,_⟩
   ·rw[y]at e;cases e
   ·rw[L]at e
    have U:=xD (show some g=some M from e);rw[U,hb]at J;cases J
 have aw:=X.lt;have am:A≠gR:=fun e=>by
  rcases Q with q|q
  ·have:=P A q;omega
  ·omega
 have R:∀z∈rows.set i ⟨r.k,r.id,.slice (some ⟨A,0,none⟩) (r.cs.length+1) F,r.cs++[c]⟩,z=⟨r.k,r.id,.slice (some ⟨A,0,none⟩) (r.cs.length+1) F,r.cs++[c]⟩\/∃j,j≠i/\rows[j]?=some z:=fun z G=>by
  obtain⟨j,B⟩:=List.getElem?_of_mem G;by_cases e:i=j
  ·subst e;rw[List.getElem?_set_self K]at B;left;exact(xD B).symm
  ·rw[List.getElem?_set_ne e]at B;right;exact⟨j,fun C=>e C.symm,B⟩
 have ids:(rows.set i ⟨r.k,r.id,.slice (some ⟨A,0,none⟩) (r.cs.length+1) F,r.cs++[c]⟩).map AE.id=rows.map AE.id:=by
  rw[List.map_set];refine List.ext_getElem? (fun j=>?_);by_cases e:i=j
  ·subst e;rw[List.getElem?_set_self (by rw[xT];exact K),xI,E];rfl
  ·rw[List.getElem?_set_ne e]
 have ay:B0<=gR:=Mr h.s.r gR rfl;have av:∀k,(B1<=k/\k<w.heap.size/\∀z∈rows,z.v.ownBlock≠some k)->A≠k:=fun k p e=>by
  rcases Q with q|q
  ·exact p.2.2 r (wT E) (by rw[q,e])
  ·have:=p.2.1;omega
 have aa:∀f t,Ba w (fun k=>B1<=k/\k<w.heap.size/\∀z∈rows,z.v.ownBlock≠some k) 1603 f t->Ba (x.setCell ⟨gR,i*3+2,none⟩ (.slice (some ⟨A,0,none⟩) (r.cs.length+1) F)) (fun k=>B1<=k/\k<(x.setCell ⟨gR,i*3+2,none⟩ (.slice (some ⟨A,0,none⟩) (r.cs.length+1) F)).heap.size/\∀z∈rows.set i ⟨r.k,r.id,.slice (some ⟨A,0,none⟩) (r.cs.length+1) F,r.cs++[c]⟩,z.v.ownBlock≠some k) 1603 f t:=fun f t q=>by
  refine q.frame (fun k p o=>World.cell?_of_block (a:=⟨k,o,none⟩) (low k p.2.1 (p.2.2 r (wT E)) (by have:=p.1;omega))) (fun k p=>⟨p.1,by have:=p.2.1;simp[World.setCell];omega,fun z G=>?_⟩);rcases R z G with e|⟨j,_,B⟩
  ·rw[e];exact fun C=>av k p (xD C)
  ·exact p.2.2 z (wT B)
 have W:∀c':BU,c'.g<B0/\Cn w c'.g c'.o c'.f c'.u->c'.g<B0/\Cn (x.setCell ⟨gR,i*3+2,none⟩ (.slice (some ⟨A,0,none⟩) (r.cs.length+1) F)) c'.g c'.o c'.f c'.u:=fun c' q=>⟨q.1,q.2.below' (fun k=>World.cell?_of_block (a:=⟨c'.g,k,none⟩) (low c'.g (by have:=q.1;omega) (fun e=>by have:=P _ e;have:=q.1;omega) (by have:=q.1;omega)))⟩;refine⟨⟨?_,?_,⟨D,?_,by rw[ids];exact aj⟩,by rw[ids];exact h.s.n,by rw[List.length_set];exact h.s.l⟩,au,ao,by simp[World.setCell];omega,?_,?_,?_,?_,?_⟩
 ·rw[List.length_set]
  exact(low T (Ab h.s.b) (fun e=>by have:=P T e;omega) ak).trans h.s.b
 ·rw[List.length_set,Vf _ _ rows i r E]
  refine Xu (So h.s.r (fun k p=>?_)) _;have e:=xD (show some gR=some k from p);subst e;exact(O.block gR (by simp;omega) (fun e=>by have:=P gR e.symm;omega)).trans (AJ _ _ _ (by omega))
 ·rw[List.length_set]
  exact((X.alloc o).kept O (fun e=>ae.2 e.symm)).kept (row:=some gR) ⟨rfl,rfl,rfl,by simp[World.setCell],fun k _ p=>xC _ _ _ _ (fun e=>p (by rw[show k=gR from e]))⟩ (fun e=>ae.1 (xD e))
 ·intro j z B
  by_cases e:i=j
  ·subst e
   rw[List.getElem?_set_self K]at B;have C:=(xD B).symm;subst C;rw[xJ,List.flatMap_append];exact Ds aq (fun e=>am (xD e)) _ _
  ·rw[List.getElem?_set_ne e]at B
   exact So (h.c j z B) (fun k p=>low k (Ln (h.c j z B) k p) (fun C=>h.d j i z r (fun x=>e x.symm) B E k p C) (by have:=Mr (h.c j z B) k p;omega))
 ·intro a b Y Z N I hb k p
  by_cases ab:i=a
  ·subst ab
   rw[List.getElem?_set_self K]at I;rw[List.getElem?_set_ne N]at hb;have C:=(xD I).symm;subst C;have V:=xD (show some A=some k from p);subst V;rcases Q with q|q
   ·exact h.d i b r Z N E hb A q
   ·intro C;have:=Ln (h.c b Z hb) A C;omega
  ·rw[List.getElem?_set_ne ab]at I
   by_cases ad:i=b
   ·subst ad
    rw[List.getElem?_set_self K]at hb;have C:=(xD hb).symm;subst C;intro V;have ag:=xD (show some A=some k from V);subst ag;rcases Q with q|q
    ·exact h.d a i Y r N I E A p q
    ·have:=Ln (h.c a Y I) A p;omega
   ·rw[List.getElem?_set_ne ad]at hb
    exact h.d a b Y Z N I hb k p
 ·intro z G c' H
  rcases R z G with e|⟨j,_,B⟩
  ·subst e
   rcases yD.1 H with q|q
   ·exact W c' (h.f r (wT E) c' q)
   ·rw[List.mem_singleton]at q;subst q;exact W _ al
  ·exact W c' (h.f z (wT B) c' H)
 ·intro z G c' H
  rcases R z G with e|⟨j,_,B⟩
  ·subst e
   rcases yD.1 H with q|q
   ·exact aa _ _ (h.v r (wT E) c' q)
   ·rw[List.mem_singleton]at q;subst q;exact aa _ _ L
  ·exact aa _ _ (h.v z (wT B) c' H)
 ·intro z G c' H
  rcases R z G with e|⟨j,_,B⟩
  ·subst e
   rcases yD.1 H with q|q
   ·exact h.lc r (wT E) c' q
   ·rw[List.mem_singleton]at q;subst q;exact ap
  ·exact h.lc z (wT B) c' H
end
end Go.Proofs.YtogdodlibkckkaaGreatDoor
