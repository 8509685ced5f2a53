import Derived.Test.YtogdodlibkckkaaGreatDoorZ22
import Derived.Laws.StructEq
import Derived.Laws.EntriesVeiled
import Derived.ChangeKeysEq
import Derived.Deep.RegionHeld3
import Derived.Deep.RegionLaw
import Derived.Deep.AppendLies
import Derived.Deep.DrawnRows
namespace Go.Proofs.YtogdodlibkckkaaGreatDoor
set_option maxHeartbeats 20000000
set_option maxRecDepth 100000
open Go.RowKit Tryz
theorem eu168:prog.underlying 154=some (.struct (prog.fieldsOf 154)):=by kernel_rfl
theorem sh168:prog.stoodInHeld 154=false:=by kernel_rfl
theorem eg168:prog.eqGuardType prog.depth 154=false:=by kernel_rfl
theorem eu166:prog.underlying 152=some (.int .i64):=by kernel_rfl
theorem pk166:prog.plainKey 152=true:=by kernel_rfl
theorem pk3:prog.plainKey 3=true:=by kernel_rfl
theorem fs168:(prog.fieldsOf 154).toList.map (fun f=>(f.name,f.type,f.offset))=[("Kind",152,0),("Number",3,1),("Text",9,2)]:=by kernel_rfl
theorem OP(w:World)(d t:Nat)(xs ys:Array Value)(f:Field)(fs:List Field)(a b:Int)(e:f.name≠ "_")(g:f.type=t)(h:prog.underlying t=some (.int .i64))(c:prog.plainKey t=true)(i:xs[f.offset]?=some (.int .i64 a))(j:ys[f.offset]?=some (.int .i64 b)):
 (Op.eqFields (d+1) xs ys (f::fs)).run prog w=if (a==b)=true then(Op.eqFields (d+1) xs ys fs).run prog w else .ok false w:=by
 rw[Op.eqFields,xH e,g];simp only[Sem.run_bind];rw[run_part_plain w c i,Result.andThen_ok,run_part_plain w c j,Result.andThen_ok,run_equalIn_int w d t .i64 .i64 a b h,Result.andThen_ok];cases (a==b)<;>simp
theorem eH(w:World)(a b d e:Int)(c f:yF):
 (Op.equalIn 10000 154 (.agg #[.int .i64 a,.int .i64 b,.string c]) (.agg #[.int .i64 d,.int .i64 e,.string f])).run prog w=.ok ((a==d)&&((b==e)&&(c.toList==f.toList))) w:=by
 rw[run_equalIn_struct w 9999 154 _ _ eu168 sh168];have g:=fs168;generalize (prog.fieldsOf 154).toList=l at g;rcases l with _|⟨k,_|⟨f1,_|⟨m,_|⟨u,l⟩⟩⟩⟩;all_goals first
  |(exfalso;have:=congrArg List.length g;simp at this;done)
  |skip
 ·simp only[List.map_cons,List.map_nil,List.cons.injEq,Prod.mk.injEq,and_true]at g
  obtain⟨⟨n,r,h⟩,⟨p,s,i⟩,⟨q,t,j⟩⟩:=g;rw[OP w 9998 152 _ _ k _ a d (by rw[n];decide) r eu166 pk166 (by rw[h];rfl) (by rw[h];rfl)];rw[OP w 9998 3 _ _ f1 _ b e (by rw[p];decide) s underlying3 pk3 (by rw[i];rfl) (by rw[i];rfl)];rw[Rm w 9998 _ _ m _ c f (by rw[q];decide) t (by rw[j];rfl) (by rw[j];rfl)];rw[UP];cases (a==d)<;>cases (b==e)<;>cases (c.toList==f.toList)<;>rfl
theorem sW(a b:Int)(c:yF)(d:Option Addr)(e f:Nat)(w:World):(Instr.field 157 (.agg #[.int .i64 a,.int .i64 b,.string c,.slice d e f]) 0).run prog w=.ok (.agg #[.int .i64 a,.int .i64 b,.string c]) w:=by kernel_rfl
def eq3(f:FV)(m:Nat×Int×yF):Bool:=((f.sh:Int)==(m.1:Int))&&((f.n==m.2.1)&&(f.s.toList==m.2.2.toList))
def LK(w:World)(v:Value)(n:yF)(k:Nat)(p:Value)(x:Int×Int×yF):Prop:=∃b,v=.pointer (some ⟨b,0,none⟩)/\w.heap[b]?=some (.cells #[.string n,.int .i64 k,p,.int .i64 x.1,.int .i64 x.2.1,.string x.2.2] 206 (0,0))
theorem iO{W:World}{v g o:Nat}{id:yF}{roles:List yF}(a:DV W v id roles)(n:yF)(u p:Value)(x:Int×Int×yF)(i:LK W u n 4 p x):
 Calls prog 58 #[.pointer (some ⟨v,0,none⟩),u,.pointer (some ⟨g,o,none⟩)] W fun e w'=>e=.returned (.bool (AS n roles))/\yG W w':=by
 obtain⟨b,rfl,hb⟩:=i;have c:=Ac hb;have j:=Ab hb;have k:b<W.heap.size+1:=by omega
 have l:b<W.heap.size+1+1:=by omega
 have d:=Aa (fun f (h:yG W f)=>Zj (a.below h) n);generalize AS n roles=q at*;clear hb a;go_enter func58,ntmps58;go_wp2;go_quiet ((go_at_call 95;refine Calls.quiet_of_same (d.o _ ?_);(repeat' with_reducible first|exact wR _ _|refine below_drewN ?_ _|refine bA ?_ _)));go_wp2;go_ret;refine⟨rfl,?_⟩;repeat' with_reducible first|exact wR _ _|refine below_drewN ?_ _|refine bA ?_ _
theorem iM{W:World}{v g o:Nat}(n:yF)(u p:Value)(x:Int×Int×yF)(a:LK W u n 3 p x):
 Calls prog 58 #[.pointer (some ⟨v,0,none⟩),u,.pointer (some ⟨g,o,none⟩)] W fun e w'=>e=.returned (.bool true)/\yG W w':=by
 obtain⟨b,rfl,hb⟩:=a;have c:=Ac hb;have d:=Ab hb;have f:b<W.heap.size+1:=by omega
 have h:b<W.heap.size+1+1:=by omega
 clear hb;go_enter func58,ntmps58;go_wp2;go_ret;refine⟨rfl,?_⟩;repeat' with_reducible first|exact wR _ _|refine below_drewN ?_ _|refine bA ?_ _
theorem iU{W:World}{v g o:Nat}{id:yF}{roles:List yF}(I:DV W v id roles)(n:yF)(u p:Value)(x:Nat×Int×yF)(P:LK W u n 5 p (x.1,x.2.1,x.2.2))(z:Value)(l:List BU)(F:W.cell? ⟨g,o+2,none⟩=some z)(H:Gn W z l)(O:l.length<=1000000):
 Calls prog 58 #[.pointer (some ⟨v,0,none⟩),u,.pointer (some ⟨g,o,none⟩)] W fun e w'=>e=.returned (.bool (eq3 (EN l n) (GD id x.1 x.2.1 x.2.2)))/\yG W w':=by
 obtain⟨b,rfl,hb⟩:=P;have E:=Ac hb;have G:=Ab hb;have A:=Aa (fun d (j:yG W d)=>UH d g o z n l (Ah j F) (H.below j) O);have J:=Aa (fun d (j:yG W d)=>nL d v id roles (I.below j) x.1 x.2.1 x.2.2);have K:=Aa (show eq3 (EN l n) (GD id x.1 x.2.1 x.2.2)=((((EN l n).sh:Int)==((GD id x.1 x.2.1 x.2.2).1:Int))&&(((EN l n).n==(GD id x.1 x.2.1 x.2.2).2.1)&&((EN l n).s.toList==(GD id x.1 x.2.1 x.2.2).2.2.toList)))from rfl);generalize eq3 (EN l n) (GD id x.1 x.2.1 x.2.2)=q at*;unfold Ct at A;generalize EN l n=f at*;generalize GD id x.1 x.2.1 x.2.2=m at*;have Y:=eH;have T:=eg168;have Z:=sW;have U:b<W.heap.size+1:=by omega
 have X:b<W.heap.size+1+1:=by omega
 clear hb I H F;go_enter func58,ntmps58;go_wp2_with fail;have h:yG W (((W.alloc (.cells #[.pointer (some ⟨v,0,none⟩)] 60)).alloc (.cells #[.pointer (some ⟨g,o,none⟩)] 93)).alloc (.cells #[.func (Fn.func 92) #[] #[.pointer (some ⟨W.heap.size,0,none⟩),.pointer (some ⟨W.heap.size+1,0,none⟩)]] 202)):=bA (bA (bA (wR _ _) _) _) _;have N:=Ht W (.cells #[.pointer (some ⟨v,0,none⟩)] 60) (.cells #[.pointer (some ⟨g,o,none⟩)] 93) (.cells #[.func (Fn.func 92) #[] #[.pointer (some ⟨W.heap.size,0,none⟩),.pointer (some ⟨W.heap.size+1,0,none⟩)]] 202);obtain⟨w,y, -⟩:=N;have B:=Ac w;have C:=Ac y;have D:∀k,_:=fun k=>(h.cell (p:=⟨b,k,none⟩) G).trans (E k);have Q:=Ab w;have R:=Ab y;have S:=xA G h.size;clear w y;generalize (((W.alloc (.cells #[.pointer (some ⟨v,0,none⟩)] 60)).alloc (.cells #[.pointer (some ⟨g,o,none⟩)] 93)).alloc (.cells #[.func (Fn.func 92) #[] #[.pointer (some ⟨W.heap.size,0,none⟩),.pointer (some ⟨W.heap.size+1,0,none⟩)]] 202))=c at*;have r:=Aa h;have t:=Aa (fun V (i:yG c V)=>xZ i (xZ (fun k=>(i.cell (p:=⟨W.heap.size,k,none⟩) Q).trans (B k)) (xZ (fun k=>(i.cell (p:=⟨W.heap.size+1,k,none⟩) R).trans (C k)) (fun k=>(i.cell (p:=⟨b,k,none⟩) S).trans (D k)))));clear B C D h E;go_region_held3 (fun V=>yG c V/\(∀k,V.cell? ⟨W.heap.size,k,none⟩=(#[.pointer (some ⟨v,0,none⟩)]:Array Value)[k]?)/\(∀k,V.cell? ⟨W.heap.size+1,k,none⟩=(#[.pointer (some ⟨g,o,none⟩)]:Array Value)[k]?)/\∀k,V.cell? ⟨b,k,none⟩=(#[.string n,.int .i64 5,p,.int .i64 x.1,.int .i64 x.2.1,.string x.2.2]:Array Value)[k]?)
  (first|exact t.o _ (wR _ _).drew|exact t.o _ (bT a M)|exact t.o _ (bT a L))
  (first
  |(go_at_call 96;obtain⟨a, -⟩:= ‹yG c _/\_›;refine(A.o _ (bT r.o a)).mono ?_;rintro _ w1 ⟨rfl,L⟩)
  |(go_at_call 97;obtain⟨a, -⟩:= ‹yG c _/\_›;refine(J.o _ (bT r.o a)).mono ?_;rintro _ w2 ⟨rfl,M⟩))
 all_goals(obtain⟨a, -⟩:= ‹yG c _/\_›;(try go_wp2_with fail);go_ret;exact⟨Al (by rw[K.o]),bT r.o a⟩)
def Js(W:World)(v g o:Nat)(u:Value)(q:Bool):Prop:=∀a,yG W a->Calls prog 58 #[.pointer (some ⟨v,0,none⟩),u,.pointer (some ⟨g,o,none⟩)] a fun e w'=>e=.returned (.bool q)/\yG a w'
theorem Rd{W:World}{v g o Z Y:Nat}{a:Option Addr}{q:Bool}(d:Js W v g o (.pointer a) q)(b:World)(c:yG W b)(j:b.cell? ⟨Z,0,none⟩=some (.pointer (some ⟨v,0,none⟩)))(i:b.cell? ⟨Y,0,none⟩=some (.pointer (some ⟨g,o,none⟩))):
 Calls prog 92 #[.pointer a,.pointer (some ⟨Z,0,none⟩),.pointer (some ⟨Y,0,none⟩)] b fun e w'=>e=.returned (.bool q)/\yG b w':=by
 have f:=Aa (d b c);clear d c;go_enter func92,ntmps92;go_wp2_with fail;refine f.o.mono ?_;rintro _ w1 ⟨rfl,h⟩;go_wp2;go_ret;exact⟨rfl,h⟩
theorem dC{b:World}{Z Y B:Nat}{a:Option Addr}{q:Bool}(hb:b.cell? ⟨B,0,none⟩=some (.func (Fn.func 92) #[] #[.pointer (some ⟨Z,0,none⟩),.pointer (some ⟨Y,0,none⟩)]))
 (c:Calls prog 92 #[.pointer a,.pointer (some ⟨Z,0,none⟩),.pointer (some ⟨Y,0,none⟩)] b fun e w'=>e=.returned (.bool q)/\yG b w'):
 Calls prog 94 #[.pointer a,.pointer (some ⟨B,0,none⟩)] b fun e w'=>e=.returned (.bool (!q))/\yG b w':=by
 have d:=Aa c;clear c;go_enter func94,ntmps94;go_wp2_with fail;refine d.o.mono ?_;rintro _ w1 ⟨rfl,f⟩;go_wp2;go_ret;exact⟨rfl,f⟩
def Qo(W:World)(v g o:Nat):World:=((W.alloc (.cells #[.pointer (some ⟨v,0,none⟩)] 60)).alloc (.cells #[.pointer (some ⟨g,o,none⟩)] 93)).alloc (.cells #[.func (Fn.func 92) #[] #[.pointer (some ⟨W.heap.size,0,none⟩),.pointer (some ⟨W.heap.size+1,0,none⟩)]] 202)
structure Ir(W:World)(v g o:Nat)(X:World):Prop where
 b:yG W X
 c0:X.cell? ⟨W.heap.size,0,none⟩=some (.pointer (some ⟨v,0,none⟩))
 c1:X.cell? ⟨W.heap.size+1,0,none⟩=some (.pointer (some ⟨g,o,none⟩))
 c2:X.cell? ⟨W.heap.size+1+1,0,none⟩=some (.func (Fn.func 92) #[] #[.pointer (some ⟨W.heap.size,0,none⟩),.pointer (some ⟨W.heap.size+1,0,none⟩)])
theorem Ir.start(W:World)(v g o:Nat):Ir W v g o (Qo W v g o):=by
 obtain⟨a,b,c⟩:=Ht W (.cells #[.pointer (some ⟨v,0,none⟩)] 60) (.cells #[.pointer (some ⟨g,o,none⟩)] 93) (.cells #[.func (Fn.func 92) #[] #[.pointer (some ⟨W.heap.size,0,none⟩),.pointer (some ⟨W.heap.size+1,0,none⟩)]] 202);exact⟨bA (bA (bA (wR _ _) _) _) _,Ac a 0,Ac b 0,Ac c 0⟩
theorem Ir.go{W c Y:World}{v g o:Nat}(a:Ir W v g o c)(k:yG c Y):Ir W v g o Y:=⟨bT a.b k,Ah k a.c0,Ah k a.c1,Ah k a.c2⟩
theorem iW{W:World}{v g o:Nat}(n:yF)(u p:Value)(x:Int×Int×yF)(J:LK W u n 2 p x)(r:Option Addr)(I:GP W p [.pointer r])(q:Bool)(y:Js W v g o (.pointer r) q):
 Calls prog 58 #[.pointer (some ⟨v,0,none⟩),u,.pointer (some ⟨g,o,none⟩)] W fun e w'=>e=.returned (.bool (!q))/\yG W w':=by
 obtain⟨b,rfl,hb⟩:=J;obtain⟨a,cap,rfl,A⟩:=I;obtain⟨G,E,rfl,C⟩:=A.resolve_left (by simp);have m:=C 0 _ rfl;simp only[Nat.add_zero]at m;have w:=Ac hb;have B:=Ab hb;have K:b<W.heap.size+1:=by omega
 have L:b<W.heap.size+1+1:=by omega
 have F:=Aa (fun t (l:Ir W v g o t)=>Rd y t l.b l.c0 l.c1);have c:=Aa (Ir.start W v g o);clear hb y C A;go_enter func58,ntmps58;go_wp2_with fail;have i:∀k,_:=fun k=>(c.o.b.cell (p:=⟨b,k,none⟩) B).trans (w k);have j:=Ah c.o.b m;have D:=xA B c.o.b.size;unfold Qo at c i j D;generalize (((W.alloc (.cells #[.pointer (some ⟨v,0,none⟩)] 60)).alloc (.cells #[.pointer (some ⟨g,o,none⟩)] 93)).alloc (.cells #[.func (Fn.func 92) #[] #[.pointer (some ⟨W.heap.size,0,none⟩),.pointer (some ⟨W.heap.size+1,0,none⟩)]] 202))=d at*;have z:=c.o.c2;have s:=Aa (fun V (h:yG d V)=>xZ h (xZ (Ah h z) (xZ (Ah h j) (fun k=>(h.cell (p:=⟨b,k,none⟩) D).trans (i k)))));clear i j w m z;go_region_held3 (fun V=>yG d V/\V.cell? ⟨W.heap.size+1+1,0,none⟩=some (.func (Fn.func 92) #[] #[.pointer (some ⟨W.heap.size,0,none⟩),.pointer (some ⟨W.heap.size+1,0,none⟩)])/\V.cell? ⟨G,E,none⟩=some (.pointer r)/\∀k,V.cell? ⟨b,k,none⟩=(#[.string n,.int .i64 2,.slice (some ⟨G,E,none⟩) 1 cap,.int .i64 x.1,.int .i64 x.2.1,.string x.2.2]:Array Value)[k]?)
  (first|exact s.o _ (wR _ _).drew|exact s.o _ (bT f H))
  ((go_at_call 92;obtain⟨f, -⟩:= ‹yG d _/\_›;refine(F.o _ (c.o.go f)).mono ?_;rintro _ w1 ⟨rfl,H⟩))
 all_goals(obtain⟨f, -⟩:= ‹yG d _/\_›;(try go_wp2_with fail);go_ret;exact⟨rfl,bT c.o.b f⟩)
theorem iX{W:World}{v g o:Nat}(n:yF)(u p:Value)(x:Int×Int×yF)(M:LK W u n 0 p x)(us:List Value)(d:List Bool)(E:GP W p us)(F:d.length=us.length)(L:us.length<=1000000)(s:∀u∈us,∃q,u=.pointer q)
 (B:∀(j:Nat) (u:Value) (b:Bool),us[j]?=some u->d[j]?=some b->Js W v g o u b):
 Calls prog 58 #[.pointer (some ⟨v,0,none⟩),u,.pointer (some ⟨g,o,none⟩)] W fun e w'=>e=.returned (.bool (d.any (fun b=>b)))/\yG W w':=by
 obtain⟨b,rfl,hb⟩:=M;have I:=Aa E;obtain⟨a,cap,rfl,_⟩:=E;have y:=Ac hb;have D:=Ab hb;have N:b<W.heap.size+1:=by omega
 have O:b<W.heap.size+1+1:=by omega
 have H:=Aa (fun w (i:Ir W v g o w)=>aE w _ W.heap.size (W.heap.size+1) us d (I.o.below i.b) F L s (fun Y r j u b A K=>by
  obtain⟨z,rfl⟩:=s u (wT A);exact Rd (B j _ b A K) Y (i.go r).b (i.go r).c0 (i.go r).c1))
 have c:=Aa (Ir.start W v g o);generalize d.any (fun b=>b)=q at*;clear hb B s F;go_enter func58,ntmps58;go_wp2_with fail;have l:∀k,_:=fun k=>(c.o.b.cell (p:=⟨b,k,none⟩) D).trans (y k);have G:=xA D c.o.b.size;unfold Qo at c l G;generalize (((W.alloc (.cells #[.pointer (some ⟨v,0,none⟩)] 60)).alloc (.cells #[.pointer (some ⟨g,o,none⟩)] 93)).alloc (.cells #[.func (Fn.func 92) #[] #[.pointer (some ⟨W.heap.size,0,none⟩),.pointer (some ⟨W.heap.size+1,0,none⟩)]] 202))=f at*;have C:=c.o.c2;have t:=Aa (fun V (m:yG f V)=>xZ m (xZ (Ah m C) (fun k=>(m.cell (p:=⟨b,k,none⟩) G).trans (l k))));clear l y C;go_region_held3 (fun V=>yG f V/\V.cell? ⟨W.heap.size+1+1,0,none⟩=some (.func (Fn.func 92) #[] #[.pointer (some ⟨W.heap.size,0,none⟩),.pointer (some ⟨W.heap.size+1,0,none⟩)])/\∀k,V.cell? ⟨b,k,none⟩=(#[.string n,.int .i64 0,.slice a us.length cap,.int .i64 x.1,.int .i64 x.2.1,.string x.2.2]:Array Value)[k]?)
  (first|exact t.o _ (wR _ _).drew|exact t.o _ (bT h J))
  ((go_at_call 93;obtain⟨h, -⟩:= ‹yG f _/\_›;refine(H.o _ (c.o.go h)).mono ?_;rintro _ w1 ⟨rfl,J⟩))
 all_goals(obtain⟨h, -⟩:= ‹yG f _/\_›;(try go_wp2_with fail);go_ret;exact⟨rfl,bT c.o.b h⟩)
theorem iQ{W:World}{v g o:Nat}(n:yF)(u p:Value)(x:Int×Int×yF)(D:LK W u n 1 p x)(us:List Value)(d:List Bool)(t:GP W p us)(w:d.length=us.length)(C:us.length<=1000000)(l:∀u∈us,∃q,u=.pointer q)
 (s:∀(j:Nat) (u:Value) (b:Bool),us[j]?=some u->d[j]?=some b->Js W v g o u b):
 Calls prog 58 #[.pointer (some ⟨v,0,none⟩),u,.pointer (some ⟨g,o,none⟩)] W fun e w'=>e=.returned (.bool (!((d.map (fun b=>!b)).any (fun b=>b))))/\yG W w':=by
 obtain⟨b,rfl,hb⟩:=D;have A:=Aa t;obtain⟨a,cap,rfl,_⟩:=t;have E:=Ac hb;have H:=Ab hb;have F:b<W.heap.size+1:=by omega
 have G:b<W.heap.size+1+1:=by omega
 have y:=Aa (fun m (f:Ir W v g o m)=>aG m _ (W.heap.size+1+1) us (d.map (fun b=>!b)) (A.o.below f.b) (by simpa using w) C l (fun Y i j u b r h=>by
  obtain⟨z,rfl⟩:=l u (wT r);rw[xI]at h;rcases hj:d[j]? with _|c<;>rw[hj]at h
  ·simp at h
  ·simp only[Option.map_some,Option.some.injEq]at h
   subst h;exact dC (f.go i).c2 (Rd (s j _ c r hj) Y (f.go i).b (f.go i).c0 (f.go i).c1)))
 have k:=Aa (Ir.start W v g o);unfold Qo at k;generalize (d.map (fun b=>!b)).any (fun b=>b)=q at*;clear hb s l w;go_enter func58,ntmps58;go_wp2_with fail;refine(y.o _ k.o).mono ?_;rintro _ w1 ⟨rfl,B⟩;go_wp2;go_ret;exact⟨rfl,bT k.o.b B⟩
mutual
def Ia(hs:yF->Bool)(a:yF->Option (Nat×Int×yF)->Bool):Br->Bool
 | .all=>true
 | .is n=>hs n
 | .eq n v=>a n v
 | .not r=>!Ia hs a r
 | .chain true l=>MU hs a l
 | .chain false l=>!Pz hs a l
def MU(hs:yF->Bool)(a:yF->Option (Nat×Int×yF)->Bool):List Br->Bool
 |[]=>false
 |t::l=>Ia hs a t||MU hs a l
def Pz(hs:yF->Bool)(a:yF->Option (Nat×Int×yF)->Bool):List Br->Bool
 |[]=>false
 |t::l=>!Ia hs a t||Pz hs a l
end
theorem aD(hs:yF->Bool)(a:yF->Option (Nat×Int×yF)->Bool)(l:List Br):(l.map (Ia hs a)).any (fun b=>b)=MU hs a l:=by
 induction l with
 |nil=>rw[MU];rfl
 |cons t l c=>rw[MU,List.map_cons,List.any_cons,c]
theorem oS(hs:yF->Bool)(a:yF->Option (Nat×Int×yF)->Bool)(l:List Br):((l.map (Ia hs a)).map (fun b=>!b)).any (fun b=>b)=Pz hs a l:=by
 induction l with
 |nil=>rw[Pz];rfl
 |cons t l c=>rw[Pz,List.map_cons,List.map_cons,List.any_cons,c]
theorem Sx{w:World}{B:Nat}{v:Value}{us:List Value}(b:w.ownsRow B 147 1 v us.length us):GP w v us:=by
 rcases b.2 with⟨a,c⟩|⟨g,cap,e,a,f,h,k⟩
 ·exact⟨none,0,by rw[a,c],Or.inl (xE c)⟩
 ·subst a
  refine⟨_,cap,rfl,Or.inr ⟨g,0,rfl,fun j u d=>?_⟩⟩;have i:j<us.length:=(wU.1 d).1;rw[Nat.zero_add,<-d];exact b.cellAt j (by omega)
theorem Js.mono{W a:World}{v g o:Nat}{u:Value}{q:Bool}(b:Js W v g o u q)(c:yG W a):Js a v g o u q:=fun Y d=>b Y (bT c d)
def eqP(l:List BU)(id n:yF)(y:Option (Nat×Int×yF)):Bool:=eq3 (EN l n) (GD id (Fy y).1 (Fy y).2.1 (Fy y).2.2)
theorem iT{W:World}{v g o:Nat}{id:yF}{roles:List yF}(D:DV W v id roles)(w:Value)(l:List BU)(G:W.cell? ⟨g,o+2,none⟩=some w)(I:Gn W w l)(H:l.length<=1000000){Q:Nat->Prop}{u:Value}{t:Br}(E:BG W Q u t):
 Js W v g o u (Ia (fun n=>AS n roles) (eqP l id) t):=by
 induction E with
 |all k n z x y _ hb=>intro d a;rw[Ia];exact iM n _ _ (x,y,z) ⟨k,rfl,KW a hb⟩
 |is k n z x y _ hb=>intro d a;rw[Ia];exact iO (D.below a) n _ _ (x,y,z) ⟨k,rfl,KW a hb⟩
 |eq k n y _ hb=>intro d a;rw[Ia];exact iU (D.below a) n _ _ (Fy y) ⟨k,rfl,KW a hb⟩ w l (Ah a G) (I.below a) H
 |not k n z x y p u t _ hb i _ hd r=>
  intro d a;rw[Ia];obtain⟨j,rfl⟩:=hd.ptr;exact iW n _ p (x,y,z) ⟨k,rfl,KW a hb⟩ _ ((Sx (us:=[_]) i).below a) _ (r.mono a)
 |chain k c n z x y p m s _ hb i _ L B hd r=>
  intro d a;have C:∀u∈m,∃q,u=.pointer q:=fun u K=>by
   obtain⟨j,h,e⟩:=List.getElem_of_mem K;obtain⟨q,J⟩:=(hd j u _ (by rw[wS h,e]) (wS (by omega:j<s.length))).ptr;exact⟨_,J⟩
  have A:∀(j:Nat) (u:Value) (b:Bool),m[j]?=some u->(s.map (Ia (fun n=>AS n roles) (eqP l id)))[j]?=some b->Js d v g o u b:=fun j u b F f=>by
   rw[xI]at f;rcases h:s[j]? with _|t<;>rw[h]at f
   ·simp at f
   ·simp only[Option.map_some,Option.some.injEq]at f
    subst f;exact(r j u t F h).mono a
  cases c
  ·rw[Ia,<-oS]
   exact iQ n _ p (x,y,z) ⟨k,rfl,KW a hb⟩ m _ ((Sx i).below a) (by simp[B]) (by omega) C A
  ·rw[Ia,<-aD]
   exact iX n _ p (x,y,z) ⟨k,rfl,KW a hb⟩ m _ ((Sx i).below a) (by simp[B]) (by omega) C A
def RH(roles:List yF)(id:yF)(l:List BU)(rl:Option (List Cx))(t:Br):Bool:=rl.isSome&&!Ia (fun n=>AS n roles) (eqP l id) t
theorem pX{W:World}{v g o i k B:Nat}{id:yF}{roles:List yF}(f:DV W v id roles)(h u:Value)(l:List BU)(rl:Option (List Cx))(t:Br)(r:W.cell? ⟨g,o,none⟩=some (.pointer (some ⟨i,k,none⟩)))(j:W.cell? ⟨i,k+3,none⟩=some u)(c:W.cell? ⟨g,o+2,none⟩=some h)(d:Gn W h l)(s:l.length<=1000000)(b:Ho W B u rl t):
 Calls prog 37 #[.pointer (some ⟨v,0,none⟩),.pointer (some ⟨g,o,none⟩)] W fun e w'=>e=.returned (.bool (RH roles id l rl t))/\yG W w':=by
 have x:=wW W _ r;have w:=wW W _ j;rcases rl with _|z
 ·rw[show u=.pointer none from b]at j
  have a:RH roles id l none t=false:=rfl;rw[a];clear f c d b a;go_enter func37,ntmps37;go_wp2;go_ret;exact⟨rfl,wR _ _⟩
 ·have m:=Aa (iT f h l c d s b.1)
  have a:RH roles id l (some z) t=!Ia (fun n=>AS n roles) (eqP l id) t:=rfl;rw[a];obtain⟨y,rfl⟩:=b.1.ptr;generalize Ia (fun n=>AS n roles) (eqP l id) t=q at*;clear f c d b a;go_enter func37,ntmps37;go_wp2_with fail;refine(m.o _ (wR _ _)).mono ?_;rintro _ w1 ⟨rfl,p⟩;go_wp2;go_ret;exact⟨rfl,p⟩
end Go.Proofs.YtogdodlibkckkaaGreatDoor
