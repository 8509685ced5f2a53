import Derived.Test.YtgbloieahmkcjaaGreatC31
import Derived.Laws.StructEq
import Derived.Laws.EntriesVeiled
import Derived.ChangeKeysEq
import Derived.Deep.RegionHeld3
namespace Go.Proofs.YtgbloieahmkcjaaGreat
set_option maxHeartbeats 20000000
set_option maxRecDepth 100000
open Go.RowKit Tryz
theorem eu168:prog.underlying 168=some (.struct (prog.fieldsOf 168)):=by kernel_rfl
theorem sh168:prog.stoodInHeld 168=false:=by kernel_rfl
theorem eg168:prog.eqGuardType prog.depth 168=false:=by kernel_rfl
theorem eu166:prog.underlying 166=some (.int .i64):=by kernel_rfl
theorem pk166:prog.plainKey 166=true:=by kernel_rfl
theorem pk3:prog.plainKey 3=true:=by kernel_rfl
theorem fs168:(prog.fieldsOf 168).toList.map (fun f=>(f.name,f.type,f.offset))=[("Kind",166,0),("Number",3,1),("Text",9,2)]:=by kernel_rfl
theorem zJ(w:World)(d t:Nat)(xs ys:Array Value)(f:Field)(fs:List Field)(a b:Int)(hn:f.name≠ "_")(ht:f.type=t)(hu:prog.underlying t=some (.int .i64))(hp:prog.plainKey t=true)(hx:xs[f.offset]?=some (.int .i64 a))(hy:ys[f.offset]?=some (.int .i64 b)):
 (Op.eqFields (d+1) xs ys (f::fs)).run prog w=if (a==b)=true then(Op.eqFields (d+1) xs ys fs).run prog w else .ok false w:=by
 rw[Op.eqFields,K9 hn,ht];simp only[Sem.run_bind];rw[run_part_plain w hp hx,Result.andThen_ok,run_part_plain w hp hy,Result.andThen_ok,run_equalIn_int w d t .i64 .i64 a b hu,Result.andThen_ok];cases (a==b)<;>simp
theorem EG(w:World)(a0 a1 b0 b1:Int)(a2 b2:Ls):
 (Op.equalIn 10000 168 (.agg #[.int .i64 a0,.int .i64 a1,.string a2]) (.agg #[.int .i64 b0,.int .i64 b1,.string b2])).run prog w=.ok ((a0==b0)&&((a1==b1)&&(a2.toList==b2.toList))) w:=by
 rw[run_equalIn_struct w 9999 168 _ _ eu168 sh168];have h:=fs168;generalize (prog.fieldsOf 168).toList=l at h;rcases l with _|⟨f0,_|⟨f1,_|⟨f2,_|⟨f3,l⟩⟩⟩⟩;all_goals first
  |(exfalso;have:=congrArg List.length h;simp at this;done)
  |skip
 ·simp only[List.map_cons,List.map_nil,List.cons.injEq,Prod.mk.injEq,and_true]at h
  obtain⟨⟨n0,t0,o0⟩,⟨n1,t1,o1⟩,⟨n2,t2,o2⟩⟩:=h;rw[zJ w 9998 166 _ _ f0 _ a0 b0 (by rw[n0];decide) t0 eu166 pk166 (by rw[o0];rfl) (by rw[o0];rfl)];rw[zJ w 9998 3 _ _ f1 _ a1 b1 (by rw[n1];decide) t1 underlying3 pk3 (by rw[o1];rfl) (by rw[o1];rfl)];rw[ov w 9998 _ _ f2 _ a2 b2 (by rw[n2];decide) t2 (by rw[o2];rfl) (by rw[o2];rfl)];rw[wK];cases (a0==b0)<;>cases (a1==b1)<;>cases (a2.toList==b2.toList)<;>rfl
theorem Eg(a b:Int)(c:Ls)(d:Option Addr)(e f:Nat)(w:World):(Instr.field 171 (.agg #[.int .i64 a,.int .i64 b,.string c,.slice d e f]) 0).run prog w=.ok (.agg #[.int .i64 a,.int .i64 b,.string c]) w:=by kernel_rfl
def pX(f:FV)(m:Nat×Int×Ls):Bool:=((f.sh:Int)==(m.1:Int))&&((f.n==m.2.1)&&(f.s.toList==m.2.2.toList))
def p7(w:World)(v:Value)(n:Ls)(k:Nat)(p:Value)(x:Int×Int×Ls):Prop:=∃b,v=.pointer (some ⟨b,0,none⟩)/\w.heap[b]?=some (.cells #[.string n,.int .i64 k,p,.int .i64 x.1,.int .i64 x.2.1,.string x.2.2] 216 (0,0))
theorem FN{W:World}{v g o:Nat}{id:Ls}{Lu:List Ls}(hv:jY W v id Lu)(n:Ls)(u p:Value)(x:Int×Int×Ls)(hu:p7 W u n 4 p x):
 Calls prog 82 #[.pointer (some ⟨v,0,none⟩),u,.pointer (some ⟨g,o,none⟩)] W fun e w'=>e=.returned (.bool (ba n Lu))/\Lt W w':=by
 obtain⟨b,rfl,hb⟩:=hu;have c:=ae hb;have hl:=ag hb;have hl1:b<W.heap.size+1:=by omega
 have hl2:b<W.heap.size+1+1:=by omega
 have HH:=aa (fun X (hX:Lt W X)=>Cs (hv.below hX) n);generalize ba n Lu=q at*;clear hb hv;go_enter func82,ntmps82;go_wp2_with fail;go_quiet ((go_at_call 116;refine Calls.quiet_of_same (HH.o _ ?_);(repeat' with_reducible first|exact KL _ _|refine below_drewN ?_ _|refine bA ?_ _)));go_wp2_with fail;go_ret;refine⟨rfl,?_⟩;repeat' with_reducible first|exact KL _ _|refine below_drewN ?_ _|refine bA ?_ _
theorem FD{W:World}{v g o:Nat}(n:Ls)(u p:Value)(x:Int×Int×Ls)(hu:p7 W u n 3 p x):
 Calls prog 82 #[.pointer (some ⟨v,0,none⟩),u,.pointer (some ⟨g,o,none⟩)] W fun e w'=>e=.returned (.bool true)/\Lt W w':=by
 obtain⟨b,rfl,hb⟩:=hu;have c:=ae hb;have hl:=ag hb;have hl1:b<W.heap.size+1:=by omega
 have hl2:b<W.heap.size+1+1:=by omega
 clear hb;go_enter func82,ntmps82;go_wp2_with fail;go_ret;refine⟨rfl,?_⟩;repeat' with_reducible first|exact KL _ _|refine below_drewN ?_ _|refine bA ?_ _
theorem JI{W:World}{v g o:Nat}{id:Ls}{Lu:List Ls}(hv:jY W v id Lu)(n:Ls)(u p:Value)(x:Nat×Int×Ls)(hu:p7 W u n 5 p (x.1,x.2.1,x.2.2))(vC:Value)(l:List eW)(hc:W.cell? ⟨g,o+2,none⟩=some vC)(hp:j5 W vC l)(hl:l.length<=1000000):
 Calls prog 82 #[.pointer (some ⟨v,0,none⟩),u,.pointer (some ⟨g,o,none⟩)] W fun e w'=>e=.returned (.bool (pX (j7 l n) (iQ id x.1 x.2.1 x.2.2)))/\Lt W w':=by
 obtain⟨b,rfl,hb⟩:=hu;have cb:=ae hb;have hlb:=ag hb;have HCO:=aa (fun X (hX:Lt W X)=>Ii X g o vC n l (ao hX hc) (hp.below hX) hl);have HME:=aa (fun X (hX:Lt W X)=>IY X v id Lu (hv.below hX) x.1 x.2.1 x.2.2);have HQ:=aa (show pX (j7 l n) (iQ id x.1 x.2.1 x.2.2)=((((j7 l n).sh:Int)==((iQ id x.1 x.2.1 x.2.2).1:Int))&&(((j7 l n).n==(iQ id x.1 x.2.1 x.2.2).2.1)&&((j7 l n).s.toList==(iQ id x.1 x.2.1 x.2.2).2.2.toList)))from rfl);generalize pX (j7 l n) (iQ id x.1 x.2.1 x.2.2)=q at*;unfold bw at HCO;generalize j7 l n=f at*;generalize iQ id x.1 x.2.1 x.2.2=m at*;have hq:=EG;have he:=eg168;have hrf:=Eg;have hl1:b<W.heap.size+1:=by omega
 have hl2:b<W.heap.size+1+1:=by omega
 clear hb hv hp hc;go_enter func82,ntmps82;go_wp2_with fail;have hB3:Lt W (((W.alloc (.cells #[.pointer (some ⟨v,0,none⟩)] 68)).alloc (.cells #[.pointer (some ⟨g,o,none⟩)] 103)).alloc (.cells #[.func (Fn.func 113) #[] #[.pointer (some ⟨W.heap.size,0,none⟩),.pointer (some ⟨W.heap.size+1,0,none⟩)]] 212)):=bA (bA (bA (KL _ _) _) _) _;have hA:=uQ W (.cells #[.pointer (some ⟨v,0,none⟩)] 68) (.cells #[.pointer (some ⟨g,o,none⟩)] 103) (.cells #[.func (Fn.func 113) #[] #[.pointer (some ⟨W.heap.size,0,none⟩),.pointer (some ⟨W.heap.size+1,0,none⟩)]] 212);obtain⟨hA0,hA1, -⟩:=hA;have a0:=ae hA0;have a1:=ae hA1;have a2:∀k,_:=fun k=>(hB3.cell (p:=⟨b,k,none⟩) hlb).trans (cb k);have hz0:=ag hA0;have hz1:=ag hA1;have hzb:=KV hlb hB3.size;clear hA0 hA1;generalize (((W.alloc (.cells #[.pointer (some ⟨v,0,none⟩)] 68)).alloc (.cells #[.pointer (some ⟨g,o,none⟩)] 103)).alloc (.cells #[.func (Fn.func 113) #[] #[.pointer (some ⟨W.heap.size,0,none⟩),.pointer (some ⟨W.heap.size+1,0,none⟩)]] 212))=W3 at*;have HB:=aa hB3;have HS:=aa (fun V (hV:Lt W3 V)=>And.intro hV (And.intro (fun k=>(hV.cell (p:=⟨W.heap.size,k,none⟩) hz0).trans (a0 k)) (And.intro (fun k=>(hV.cell (p:=⟨W.heap.size+1,k,none⟩) hz1).trans (a1 k)) (fun k=>(hV.cell (p:=⟨b,k,none⟩) hzb).trans (a2 k)))));clear a0 a1 a2 hB3 cb;go_region_held3 (fun V=>Lt W3 V/\(∀k,V.cell? ⟨W.heap.size,k,none⟩=(#[.pointer (some ⟨v,0,none⟩)]:Array Value)[k]?)/\(∀k,V.cell? ⟨W.heap.size+1,k,none⟩=(#[.pointer (some ⟨g,o,none⟩)]:Array Value)[k]?)/\∀k,V.cell? ⟨b,k,none⟩=(#[.string n,.int .i64 5,p,.int .i64 x.1,.int .i64 x.2.1,.string x.2.2]:Array Value)[k]?)
  (first|exact HS.o _ (KL _ _).drew|exact HS.o _ (bT bh b2)|exact HS.o _ (bT bh b1))
  (first
  |(go_at_call 117;obtain⟨bh, -⟩:= ‹Lt W3 _/\_›;refine(HCO.o _ (bT HB.o bh)).mono ?_;rintro _ w1 ⟨rfl,b1⟩)
  |(go_at_call 118;obtain⟨bh, -⟩:= ‹Lt W3 _/\_›;refine(HME.o _ (bT HB.o bh)).mono ?_;rintro _ w2 ⟨rfl,b2⟩))
 all_goals(obtain⟨bh, -⟩:= ‹Lt W3 _/\_›;(try go_wp2_with fail);go_ret;exact⟨am (by rw[HQ.o]),bT HB.o bh⟩)
def nj(W:World)(v g o:Nat)(u:Value)(q:Bool):Prop:=∀X,Lt W X->Calls prog 82 #[.pointer (some ⟨v,0,none⟩),u,.pointer (some ⟨g,o,none⟩)] X fun e w'=>e=.returned (.bool q)/\Lt X w'
theorem xx{W:World}{v g o Z Y:Nat}{a:Option Addr}{q:Bool}(hc:nj W v g o (.pointer a) q)(X:World)(hX:Lt W X)(hz:X.cell? ⟨Z,0,none⟩=some (.pointer (some ⟨v,0,none⟩)))(hy:X.cell? ⟨Y,0,none⟩=some (.pointer (some ⟨g,o,none⟩))):
 Calls prog 113 #[.pointer a,.pointer (some ⟨Z,0,none⟩),.pointer (some ⟨Y,0,none⟩)] X fun e w'=>e=.returned (.bool q)/\Lt X w':=by
 have HC:=aa (hc X hX);clear hc hX;go_enter func113,ntmps113;go_wp2_with fail;refine HC.o.mono ?_;rintro _ w1 ⟨rfl,b1⟩;go_wp2_with fail;go_ret;exact⟨rfl,b1⟩
theorem Hb{X:World}{Z Y B:Nat}{a:Option Addr}{q:Bool}(hb:X.cell? ⟨B,0,none⟩=some (.func (Fn.func 113) #[] #[.pointer (some ⟨Z,0,none⟩),.pointer (some ⟨Y,0,none⟩)]))
 (hc:Calls prog 113 #[.pointer a,.pointer (some ⟨Z,0,none⟩),.pointer (some ⟨Y,0,none⟩)] X fun e w'=>e=.returned (.bool q)/\Lt X w'):
 Calls prog 115 #[.pointer a,.pointer (some ⟨B,0,none⟩)] X fun e w'=>e=.returned (.bool (!q))/\Lt X w':=by
 have HC:=aa hc;clear hc;go_enter func115,ntmps115;go_wp2_with fail;refine HC.o.mono ?_;rintro _ w1 ⟨rfl,b1⟩;go_wp2_with fail;go_ret;exact⟨rfl,b1⟩
def tD(W:World)(v g o:Nat):World:=((W.alloc (.cells #[.pointer (some ⟨v,0,none⟩)] 68)).alloc (.cells #[.pointer (some ⟨g,o,none⟩)] 103)).alloc (.cells #[.func (Fn.func 113) #[] #[.pointer (some ⟨W.heap.size,0,none⟩),.pointer (some ⟨W.heap.size+1,0,none⟩)]] 212)
structure lY(W:World)(v g o:Nat)(X:World):Prop where
 b:Lt W X
 c0:X.cell? ⟨W.heap.size,0,none⟩=some (.pointer (some ⟨v,0,none⟩))
 c1:X.cell? ⟨W.heap.size+1,0,none⟩=some (.pointer (some ⟨g,o,none⟩))
 c2:X.cell? ⟨W.heap.size+1+1,0,none⟩=some (.func (Fn.func 113) #[] #[.pointer (some ⟨W.heap.size,0,none⟩),.pointer (some ⟨W.heap.size+1,0,none⟩)])
theorem lY.start(W:World)(v g o:Nat):lY W v g o (tD W v g o):=by
 obtain⟨h0,h1,h2⟩:=uQ W (.cells #[.pointer (some ⟨v,0,none⟩)] 68) (.cells #[.pointer (some ⟨g,o,none⟩)] 103) (.cells #[.func (Fn.func 113) #[] #[.pointer (some ⟨W.heap.size,0,none⟩),.pointer (some ⟨W.heap.size+1,0,none⟩)]] 212);exact⟨bA (bA (bA (KL _ _) _) _) _,ae h0 0,ae h1 0,ae h2 0⟩
theorem lY.go{W X Y:World}{v g o:Nat}(h:lY W v g o X)(k:Lt X Y):lY W v g o Y:=⟨bT h.b k,ao k h.c0,ao k h.c1,ao k h.c2⟩
theorem Fg{W:World}{v g o:Nat}(n:Ls)(u p:Value)(x:Int×Int×Ls)(hu:p7 W u n 2 p x)(r:Option Addr)(hp:lh W p [.pointer r])(q:Bool)(hc:nj W v g o (.pointer r) q):
 Calls prog 82 #[.pointer (some ⟨v,0,none⟩),u,.pointer (some ⟨g,o,none⟩)] W fun e w'=>e=.returned (.bool (!q))/\Lt W w':=by
 obtain⟨b,rfl,hb⟩:=hu;obtain⟨a,cap,rfl,hh⟩:=hp;obtain⟨G,off,rfl,hr⟩:=hh.resolve_left (by simp);have hr0:=hr 0 _ rfl;simp only[Nat.add_zero]at hr0;have cb:=ae hb;have hlb:=ag hb;have hl1:b<W.heap.size+1:=by omega
 have hl2:b<W.heap.size+1+1:=by omega
 have HC:=aa (fun X (h:lY W v g o X)=>xx hc X h.b h.c0 h.c1);have HW:=aa (lY.start W v g o);clear hb hc hr hh;go_enter func82,ntmps82;go_wp2_with fail;have a2:∀k,_:=fun k=>(HW.o.b.cell (p:=⟨b,k,none⟩) hlb).trans (cb k);have a3:=ao HW.o.b hr0;have hzb:=KV hlb HW.o.b.size;unfold tD at HW a2 a3 hzb;generalize (((W.alloc (.cells #[.pointer (some ⟨v,0,none⟩)] 68)).alloc (.cells #[.pointer (some ⟨g,o,none⟩)] 103)).alloc (.cells #[.func (Fn.func 113) #[] #[.pointer (some ⟨W.heap.size,0,none⟩),.pointer (some ⟨W.heap.size+1,0,none⟩)]] 212))=W3 at*;have hc2:=HW.o.c2;have HS:=aa (fun V (hV:Lt W3 V)=>And.intro hV (And.intro (ao hV hc2) (And.intro (ao hV a3) (fun k=>(hV.cell (p:=⟨b,k,none⟩) hzb).trans (a2 k)))));clear a2 a3 cb hr0 hc2;go_region_held3 (fun V=>Lt W3 V/\V.cell? ⟨W.heap.size+1+1,0,none⟩=some (.func (Fn.func 113) #[] #[.pointer (some ⟨W.heap.size,0,none⟩),.pointer (some ⟨W.heap.size+1,0,none⟩)])/\V.cell? ⟨G,off,none⟩=some (.pointer r)/\∀k,V.cell? ⟨b,k,none⟩=(#[.string n,.int .i64 2,.slice (some ⟨G,off,none⟩) 1 cap,.int .i64 x.1,.int .i64 x.2.1,.string x.2.2]:Array Value)[k]?)
  (first|exact HS.o _ (KL _ _).drew|exact HS.o _ (bT bh b1))
  ((go_at_call 113;obtain⟨bh, -⟩:= ‹Lt W3 _/\_›;refine(HC.o _ (HW.o.go bh)).mono ?_;rintro _ w1 ⟨rfl,b1⟩))
 all_goals(obtain⟨bh, -⟩:= ‹Lt W3 _/\_›;(try go_wp2_with fail);go_ret;exact⟨rfl,bT HW.o.b bh⟩)
theorem DV{W:World}{v g o:Nat}(n:Ls)(u p:Value)(x:Int×Int×Ls)(hu:p7 W u n 0 p x)(us:List Value)(qs:List Bool)(hp:lh W p us)(hq:qs.length=us.length)(hl:us.length<=1000000)(MF:∀u∈us,∃q,u=.pointer q)
 (hc:∀(j:Nat) (u:Value) (b:Bool),us[j]?=some u->qs[j]?=some b->nj W v g o u b):
 Calls prog 82 #[.pointer (some ⟨v,0,none⟩),u,.pointer (some ⟨g,o,none⟩)] W fun e w'=>e=.returned (.bool (qs.any (fun b=>b)))/\Lt W w':=by
 obtain⟨b,rfl,hb⟩:=hu;have HP:=aa hp;obtain⟨a,cap,rfl,_⟩:=hp;have cb:=ae hb;have hlb:=ag hb;have hl1:b<W.heap.size+1:=by omega
 have hl2:b<W.heap.size+1+1:=by omega
 have HC:=aa (fun X (h:lY W v g o X)=>DD X _ W.heap.size (W.heap.size+1) us qs (HP.o.below h.b) hq hl MF (fun Y hY j u b h1 h2=>by
  obtain⟨z,rfl⟩:=MF u (KN h1);exact xx (hc j _ b h1 h2) Y (h.go hY).b (h.go hY).c0 (h.go hY).c1))
 have HW:=aa (lY.start W v g o);generalize qs.any (fun b=>b)=q at*;clear hb hc MF hq;go_enter func82,ntmps82;go_wp2_with fail;have a2:∀k,_:=fun k=>(HW.o.b.cell (p:=⟨b,k,none⟩) hlb).trans (cb k);have hzb:=KV hlb HW.o.b.size;unfold tD at HW a2 hzb;generalize (((W.alloc (.cells #[.pointer (some ⟨v,0,none⟩)] 68)).alloc (.cells #[.pointer (some ⟨g,o,none⟩)] 103)).alloc (.cells #[.func (Fn.func 113) #[] #[.pointer (some ⟨W.heap.size,0,none⟩),.pointer (some ⟨W.heap.size+1,0,none⟩)]] 212))=W3 at*;have hc2:=HW.o.c2;have HS:=aa (fun V (hV:Lt W3 V)=>And.intro hV (And.intro (ao hV hc2) (fun k=>(hV.cell (p:=⟨b,k,none⟩) hzb).trans (a2 k))));clear a2 cb hc2;go_region_held3 (fun V=>Lt W3 V/\V.cell? ⟨W.heap.size+1+1,0,none⟩=some (.func (Fn.func 113) #[] #[.pointer (some ⟨W.heap.size,0,none⟩),.pointer (some ⟨W.heap.size+1,0,none⟩)])/\∀k,V.cell? ⟨b,k,none⟩=(#[.string n,.int .i64 0,.slice a us.length cap,.int .i64 x.1,.int .i64 x.2.1,.string x.2.2]:Array Value)[k]?)
  (first|exact HS.o _ (KL _ _).drew|exact HS.o _ (bT bh b1))
  ((go_at_call 114;obtain⟨bh, -⟩:= ‹Lt W3 _/\_›;refine(HC.o _ (HW.o.go bh)).mono ?_;rintro _ w1 ⟨rfl,b1⟩))
 all_goals(obtain⟨bh, -⟩:= ‹Lt W3 _/\_›;(try go_wp2_with fail);go_ret;exact⟨rfl,bT HW.o.b bh⟩)
theorem Dg{W:World}{v g o:Nat}(n:Ls)(u p:Value)(x:Int×Int×Ls)(hu:p7 W u n 1 p x)(us:List Value)(qs:List Bool)(hp:lh W p us)(hq:qs.length=us.length)(hl:us.length<=1000000)(MF:∀u∈us,∃q,u=.pointer q)
 (hc:∀(j:Nat) (u:Value) (b:Bool),us[j]?=some u->qs[j]?=some b->nj W v g o u b):
 Calls prog 82 #[.pointer (some ⟨v,0,none⟩),u,.pointer (some ⟨g,o,none⟩)] W fun e w'=>e=.returned (.bool (!((qs.map (fun b=>!b)).any (fun b=>b))))/\Lt W w':=by
 obtain⟨b,rfl,hb⟩:=hu;have HP:=aa hp;obtain⟨a,cap,rfl,_⟩:=hp;have cb:=ae hb;have hlb:=ag hb;have hl1:b<W.heap.size+1:=by omega
 have hl2:b<W.heap.size+1+1:=by omega
 have HC:=aa (fun X (h:lY W v g o X)=>Ix X _ (W.heap.size+1+1) us (qs.map (fun b=>!b)) (HP.o.below h.b) (by simpa using hq) hl MF (fun Y hY j u b h1 h2=>by
  obtain⟨z,rfl⟩:=MF u (KN h1);rw[La]at h2;rcases hj:qs[j]? with _|c<;>rw[hj]at h2
  ·simp at h2
  ·simp only[Option.map_some,Option.some.injEq]at h2
   subst h2;exact Hb (h.go hY).c2 (xx (hc j _ c h1 hj) Y (h.go hY).b (h.go hY).c0 (h.go hY).c1)))
 have HW:=aa (lY.start W v g o);unfold tD at HW;generalize (qs.map (fun b=>!b)).any (fun b=>b)=q at*;clear hb hc MF hq;go_enter func82,ntmps82;go_wp2_with fail;refine(HC.o _ HW.o).mono ?_;rintro _ w1 ⟨rfl,b1⟩;go_wp2_with fail;go_ret;exact⟨rfl,bT HW.o.b b1⟩
mutual
def iI(hs:Ls->Bool)(eqv:Ls->Option (Nat×Int×Ls)->Bool):aK->Bool
 | .all=>true
 | .is n=>hs n
 | .eq n v=>eqv n v
 | .not r=>!iI hs eqv r
 | .chain true l=>nY hs eqv l
 | .chain false l=>!qG hs eqv l
def nY(hs:Ls->Bool)(eqv:Ls->Option (Nat×Int×Ls)->Bool):List aK->Bool
 |[]=>false
 |t::l=>iI hs eqv t||nY hs eqv l
def qG(hs:Ls->Bool)(eqv:Ls->Option (Nat×Int×Ls)->Bool):List aK->Bool
 |[]=>false
 |t::l=>!iI hs eqv t||qG hs eqv l
end
theorem Fe(hs:Ls->Bool)(eqv:Ls->Option (Nat×Int×Ls)->Bool)(l:List aK):(l.map (iI hs eqv)).any (fun b=>b)=nY hs eqv l:=by
 induction l with
 |nil=>rw[nY];rfl
 |cons t l ih=>rw[nY,List.map_cons,List.any_cons,ih]
theorem JJ(hs:Ls->Bool)(eqv:Ls->Option (Nat×Int×Ls)->Bool)(l:List aK):((l.map (iI hs eqv)).map (fun b=>!b)).any (fun b=>b)=qG hs eqv l:=by
 induction l with
 |nil=>rw[qG];rfl
 |cons t l ih=>rw[qG,List.map_cons,List.map_cons,List.any_cons,ih]
theorem xc{w:World}{B:Nat}{v:Value}{us:List Value}(h:w.ownsRow B 161 1 v us.length us):lh w v us:=by
 rcases h.2 with⟨hv,h0⟩|⟨g,cap,cur,hv,hg,hh,hr⟩
 ·exact⟨none,0,by rw[hv,h0],Or.inl (KZ h0)⟩
 ·subst hv
  refine⟨_,cap,rfl,Or.inr ⟨g,0,rfl,fun j u hj=>?_⟩⟩;have hjl:j<us.length:=(KO.1 hj).1;rw[Nat.zero_add,<-hj];exact h.cellAt j (by omega)
theorem nj.mono{W X:World}{v g o:Nat}{u:Value}{q:Bool}(h:nj W v g o u q)(hX:Lt W X):nj X v g o u q:=fun Y hY=>h Y (bT hX hY)
def pD(l:List eW)(id n:Ls)(y:Option (Nat×Int×Ls)):Bool:=pX (j7 l n) (iQ id (iK y).1 (iK y).2.1 (iK y).2.2)
theorem H8{W:World}{v g o:Nat}{id:Ls}{Lu:List Ls}(hv:jY W v id Lu)(vC:Value)(l:List eW)(hc:W.cell? ⟨g,o+2,none⟩=some vC)(hp:j5 W vC l)(hl:l.length<=1000000){Q:Nat->Prop}{u:Value}{t:aK}(h:dt W Q u t):
 nj W v g o u (iI (fun n=>ba n Lu) (pD l id) t):=by
 induction h with
 |all k n z x y _ hb=>intro X hX;rw[iI];exact FD n _ _ (x,y,z) ⟨k,rfl,fO hX hb⟩
 |is k n z x y _ hb=>intro X hX;rw[iI];exact FN (hv.below hX) n _ _ (x,y,z) ⟨k,rfl,fO hX hb⟩
 |eq k n y _ hb=>intro X hX;rw[iI];exact JI (hv.below hX) n _ _ (iK y) ⟨k,rfl,fO hX hb⟩ vC l (ao hX hc) (hp.below hX) hl
 |not k n z x y p u t _ hb LJ _ hd ih=>
  intro X hX;rw[iI];obtain⟨j,rfl⟩:=hd.ptr;exact Fg n _ p (x,y,z) ⟨k,rfl,fO hX hb⟩ _ ((xc (us:=[_]) LJ).below hX) _ (ih.mono hX)
 |chain k c n z x y p vs ts _ hb LJ _ hle Me hd ih=>
  intro X hX;have MF:∀u∈vs,∃q,u=.pointer q:=fun u hu=>by
   obtain⟨j,hj,e⟩:=List.getElem_of_mem hu;obtain⟨q,hq⟩:=(hd j u _ (by rw[KM hj,e]) (KM (by omega:j<ts.length))).ptr;exact⟨_,hq⟩
  have hcs:∀(j:Nat) (u:Value) (b:Bool),vs[j]?=some u->(ts.map (iI (fun n=>ba n Lu) (pD l id)))[j]?=some b->nj X v g o u b:=fun j u b h1 h2=>by
   rw[La]at h2;rcases hj:ts[j]? with _|t<;>rw[hj]at h2
   ·simp at h2
   ·simp only[Option.map_some,Option.some.injEq]at h2
    subst h2;exact(ih j u t h1 hj).mono hX
  cases c
  ·rw[iI,<-JJ]
   exact Dg n _ p (x,y,z) ⟨k,rfl,fO hX hb⟩ vs _ ((xc LJ).below hX) (by simp[Me]) (by omega) MF hcs
  ·rw[iI,<-Fe]
   exact DV n _ p (x,y,z) ⟨k,rfl,fO hX hb⟩ vs _ ((xc LJ).below hX) (by simp[Me]) (by omega) MF hcs
def pW(Lu:List Ls)(id:Ls)(l:List eW)(rl:Option (List cw))(t:aK):Bool:=rl.isSome&&!iI (fun n=>ba n Lu) (pD l id) t
theorem Di{W:World}{v g o gO k B:Nat}{id:Ls}{Lu:List Ls}(hv:jY W v id Lu)(vC u:Value)(l:List eW)(rl:Option (List cw))(t:aK)(h0:W.cell? ⟨g,o,none⟩=some (.pointer (some ⟨gO,k,none⟩)))(h3:W.cell? ⟨gO,k+3,none⟩=some u)(hc:W.cell? ⟨g,o+2,none⟩=some vC)(hp:j5 W vC l)(hl:l.length<=1000000)(hu:jX W B u rl t):
 Calls prog 43 #[.pointer (some ⟨v,0,none⟩),.pointer (some ⟨g,o,none⟩)] W fun e w'=>e=.returned (.bool (pW Lu id l rl t))/\Lt W w':=by
 have hgl:=KQ W _ h0;have hgO:=KQ W _ h3;rcases rl with _|z
 ·rw[show u=.pointer none from hu]at h3
  have he:pW Lu id l none t=false:=rfl;rw[he];clear hv hc hp hu he;go_enter func43,ntmps43;go_wp2_with fail;go_ret;exact⟨rfl,KL _ _⟩
 ·have HC:=aa (H8 hv vC l hc hp hl hu.1)
  have he:pW Lu id l (some z) t=!iI (fun n=>ba n Lu) (pD l id) t:=rfl;rw[he];obtain⟨kb,rfl⟩:=hu.1.ptr;generalize iI (fun n=>ba n Lu) (pD l id) t=q at*;clear hv hc hp hu he;go_enter func43,ntmps43;go_wp2_with fail;refine(HC.o _ (KL _ _)).mono ?_;rintro _ w1 ⟨rfl,b1⟩;go_wp2_with fail;go_ret;exact⟨rfl,b1⟩
def qB(Lu:List Ls)(f:ax):Bool:=jd Lu f.LG&&jd Lu f.LH
def lx(Lu:List Ls)(l:List eW):List dd:=(l.filter (fun c=>qB Lu c.f)).map (fun c=>(c.f.name,c.t))
theorem Fo{W:World}{v g o gO k:Nat}{id nm rid:Ls}{Lu:List Ls}(hv:jY W v id Lu)(vC:Value)(l:List eW)(h0:W.cell? ⟨g,o,none⟩=some (.pointer (some ⟨gO,k,none⟩)))(h1:W.cell? ⟨g,o+1,none⟩=some (.string rid))(h3:W.cell? ⟨gO,k,none⟩=some (.string nm))(hc:W.cell? ⟨g,o+2,none⟩=some vC)(hp:j5 W vC l)(hl:l.length<=1000000):
 Calls prog 44 #[.pointer (some ⟨g,o,none⟩),.func (Fn.func 45) #[.pointer (some ⟨v,0,none⟩)] #[]] W fun e w'=>∃vO,e=.returned (.agg #[.string nm,.string rid,vO])/\w'.ownsRow W.heap.size 34 2 vO (lx Lu l).length ((lx Lu l).flatMap et)/\(lx Lu l).length<=l.length/\Lt W w':=by
 have hp2:=hp;obtain⟨aC,cC,rfl,_⟩:=hp2;obtain⟨iC,hiC,zC0,zC1,zC2⟩:=info_parts info34;have hgl:=KQ W _ h0;have hgO:=KQ W _ h3;have HP:=aa hp;have HV:=aa hv;clear hp hv;go_enter func44,ntmps44;go_wp2_with fail;go_cut [5] (fun v5 wc=>v5=.pointer (some ⟨W.heap.size+1,0,none⟩)/\wc.heap[W.heap.size+1]?=some (.cells #[.string nm,.string rid,.slice none 0 0] 37 (0,0))/\Lt W wc/\wc.heap[W.heap.size]?=some (.cells #[.string ⟨#[]⟩,.string ⟨#[]⟩,.slice none 0 0] 37 (0,0)))
 case first=>
  go_region;all_goals(try go_wp2_with fail)
  all_goals(go_meet)
  obtain⟨X1,X2,X3⟩:=uw W (.cells #[.string ⟨#[]⟩,.string ⟨#[]⟩,.slice none 0 0] 37) (.cells #[.string nm,.string rid,.slice none 0 0] 37);exact⟨rfl,X2,X3.drew,X1⟩
 case rest=>
  obtain⟨rfl,hN,hb,h4⟩:=hcut;have hNb:=ag hN;have HN:=aa hN;have HBB:=aa hb;have H4:=aa h4;have hc:=ao hb hc;have hgl:g<wc.heap.size:=KQ wc _ hc;obtain⟨wb,rfl⟩:∃wb:World,wb=wc:=⟨_,rfl⟩;clear hN hb h4 h0 h1 h3 hgO;go_wp2_with fail;go_loopg [7,27] l.length (fun m v7 v27 wr=>∃(i:Nat) (vO:Value) (cs:List dd),v27=.int .i64 i/\i<=l.length/\l.length-i<=m/\wr.heap[W.heap.size+1]?=some (.cells #[.string nm,.string rid,vO] 37 (0,0))/\wr.ownsRow wb.heap.size 34 2 vO cs.length (cs.flatMap et)/\cs.length<=i/\cs=lx Lu (l.take i)/\Lt W wr/\wb.heap.size<=wr.heap.size/\wr.heap[W.heap.size]?=some (.cells #[.string ⟨#[]⟩,.string ⟨#[]⟩,.slice none 0 0] 37 (0,0)))
  case atStart=>exact⟨0,_,[],rfl,KU _,KK _,HN.o,K7 _ _ _ _,KK _,rfl,HBB.o,KK _,H4.o⟩
  case round=>
   obtain⟨i,vO,cs,rfl,hil,hm,hNr,hoC,hck,hcs,hb,hsb,h4⟩:=hrel;obtain⟨aQ,cQ,hvQ⟩:=bc hoC;subst hvQ;have HNR:=aa hNr;have hlN:=ag hNr;have HOC:=aa hoC;have HCS:=aa hcs;have HBK:=aa hb;have H4R:=aa h4;clear hNr hoC hcs hb h4 hc;by_cases hlt:i<l.length
   ·obtain⟨c,hcc⟩:∃c,l[i]?=some c:=⟨_,KM hlt⟩
    obtain⟨gC,oC,e,c0,c1,c2,c3,c4,c5,hf⟩:=(HP.o.below HBK.o).at hcc;subst e;have hgC:gC<wr.heap.size:=KQ wr _ c0;have HSE:=aa (fun X (hX:Lt wr X)=>Ko (HV.o.below (bT HBK.o hX)) (hf.below hX));have f0:=hf.c0;have hgf:c.g<wr.heap.size:=KQ wr _ f0;have HCT:=aa (show lx Lu (l.take (i+1))=cs++(if (jd Lu c.f.LG&&jd Lu c.f.LH)=true then [(c.f.name,c.t)]else [])from by
     rw[Ld,hcc,HCS.o];unfold lx;rw[List.filter_append,Lr];simp only[Option.toList];rw[List.filter_cons];unfold qB;split<;>simp)
    generalize (jd Lu c.f.LG&&jd Lu c.f.LH)=q at*;clear hf;go_wp2_with fail;refine(HSE.o _ (bA (KL _ _) _)).mono ?_;rintro _ _ ⟨rfl,rfl⟩;have hfg:Lt wr (wr.alloc (.cells #[.pointer (some ⟨c.g,c.o,none⟩),.string c.t,.int .i64 c.c.sh,.int .i64 c.c.n,.string c.c.s,.slice c.c.la c.c.ln c.c.lc] 173)):=bA (KL _ _) _;have hT:=KS wr (.cells #[.pointer (some ⟨c.g,c.o,none⟩),.string c.t,.int .i64 c.c.sh,.int .i64 c.c.n,.string c.c.s,.slice c.c.la c.c.ln c.c.lc] 173);generalize wr.alloc (.cells #[.pointer (some ⟨c.g,c.o,none⟩),.string c.t,.int .i64 c.c.sh,.int .i64 c.c.n,.string c.c.s,.slice c.c.la c.c.ln c.c.lc] 173)=wg at*;have HN9:=aa ((hfg.block _ hlN).trans HNR.o);have hlN9:=ag HN9.o;have H49:=aa ((hfg.block _ (ag H4R.o)).trans H4R.o);have HO9:=aa (bZ HOC.o hfg);have hb9:=aa (bT HBK.o hfg);have hszg:=hfg.size;have cT:=ae hT;have hlT:=ag hT;have f0:=ao hfg f0;have hgf:c.g<wg.heap.size:=by omega
    clear c0 c1 c2 c3 c4 c5 hgC hfg hT HSE;cases q
    ·go_wp2_with fail
     go_roundg (l.length-(i+1))
     case measure=>omega
     case rel=>exact⟨i+1,_,cs,by go_num,by omega,KK _,HN9.o,HO9.o,by omega,by rw[HCT.o];simp,hb9.o,by omega,H49.o⟩
    ·have hne:Option.some (W.heap.size+1)≠(Value.slice aQ cs.length cQ).ownBlock:=fun e=>jC HOC.o hNb e.symm
     have hne4:Option.some W.heap.size≠(Value.slice aQ cs.length cQ).ownBlock:=fun e=>jC HOC.o (show W.heap.size<wb.heap.size by omega) e.symm;have hcsl:cs.length<=1000000:=by omega
     have cN9:=ae HN9.o;have fN9:=ar HN9.o;go_wp2_with fail;go_region_law (first|(refine step_append_lies _ (by rfl) _ _ _ (by rfl) wb.heap.size 34 iC _ 2 32 underlying35 hiC zC0 zC1 zC2 rfl (by decide) _ _ _ (by rfl) (bZ HO9.o (by repeat' with_reducible first|exact KL _ _|refine bA ?_ _|refine Below.drew ?_)) ⟨wg.heap.size,0,none⟩ 1 1 [.string c.f.name,.string c.t] (by rfl) (by rfl) (de _ _ _ _ (by simp)) (pZ rfl rfl) (by decide) (by unfold maxLen;omega) (by omega) (by simp;omega) (wg.heap.size+1) (by simp) ?_;intro g cap w5 LV hgrow hat hg5;have g5:=(hgrow.block (W.heap.size+1) (by simp;omega) hne).trans ((by first|exact(bA (KL wg.heap.size wg) _).block _ hlN9|exact(bA (KL wg.heap.size wg) _).drew.block _ hlN9:_=wg.heap[W.heap.size+1]?).trans HN9.o);have e5:=ae g5;have f5:=ar g5));all_goals(try go_wp2_with fail)
     all_goals(
      have NC:=hgrow.size;simp at NC;go_roundg (l.length-(i+1))
      case measure=>omega
      case rel=>
       refine⟨i+1,_,cs++[(c.f.name,c.t)],by go_num,by omega,KK _,aJ g5 2 _,?_,by simp;omega,by rw[HCT.o];simp,?_,by simp[World.setCell];omega,?_⟩
       ·rw[Lb,List.flatMap_append]
        exact rU LV hNb 2 _
       ·exact⟨hgrow.os.trans hb9.o.os,hgrow.tape.trans hb9.o.tape,hgrow.output.trans hb9.o.output,by have:=hb9.o.size;simp[World.setCell];omega,fun j hj=>(KX _ _ _ _ (show j≠W.heap.size+1 by omega)).trans ((hgrow.block j (by have:=hb9.o.size;simp;omega) (fun e=>jC HOC.o (show j<wb.heap.size by omega) e.symm)).trans ((by first|exact(bA (KL wg.heap.size wg) _).block _ (by have:=hb9.o.size;omega)|exact(bA (KL wg.heap.size wg) _).drew.block _ (by have:=hb9.o.size;omega):_=wg.heap[j]?).trans (hb9.o.block j hj)))⟩
       ·exact(KX _ _ _ _ (show W.heap.size≠W.heap.size+1 by omega)).trans ((hgrow.block W.heap.size (by simp;omega) hne4).trans ((by first|exact(bA (KL wg.heap.size wg) _).block _ (by omega)|exact(bA (KL wg.heap.size wg) _).drew.block _ (by omega):_=wg.heap[W.heap.size]?).trans H49.o)))
   ·have hie:i=l.length:=by omega
    subst hie;have cN:=ae HNR.o;have c4:=ae H4R.o;have f4:=ar H4R.o;have hl4:=ag H4R.o;go_wp2_with fail;have hcs:cs=lx Lu l:=by rw[HCS.o,List.take_length]
    subst hcs;refine bodyPost_ret (v:=.agg #[.string nm,.string rid,.slice aQ (lx Lu l).length cQ]) (by simp[results,results44,go_sem, *]) rfl ⟨_,rfl,?_,hck,?_⟩
    ·refine nh (B:=wb.heap.size) ?_ (by omega)
     repeat' with_reducible first|exact HOC.o|refine lq ?_ (show _<wb.heap.size by omega) _ _
    ·repeat' with_reducible first|exact HBK.o|refine bS ?_ _ (KK _) _
structure qC(w:World)(gR j:Nat)(id:Ls)(Lu:List Ls)(z:Option bo):Prop where
 ex:∃(gO k B:Nat) (nm rid:Ls) (vC u:Value) (l:List eW) (rl:Option (List cw)) (t:aK),w.cell? ⟨gR,j*3,none⟩=some (.pointer (some ⟨gO,k,none⟩))/\w.cell? ⟨gR,j*3+1,none⟩=some (.string rid)/\w.cell? ⟨gR,j*3+2,none⟩=some vC/\w.cell? ⟨gO,k,none⟩=some (.string nm)/\w.cell? ⟨gO,k+3,none⟩=some u/\j5 w vC l/\l.length<=1000000/\jX w B u rl t/\z=if pW Lu id l rl t=true then none else some (nm,rid,lx Lu l)
theorem jX.below{w w':World}{B:Nat}{v:Value}{o:Option (List cw)}{t:aK}(h:jX w B v o t)(hb:Lt w w'):jX w' B v o t:=h.stays (au.of_below hb) (au.of_below hb)
theorem qC.below{w w':World}{gR j:Nat}{id:Ls}{Lu:List Ls}{z:Option bo}(h:qC w gR j id Lu z)(hb:Lt w w'):qC w' gR j id Lu z:=by
 obtain⟨gO,k,B,nm,rid,vC,u,l,rl,t,h0,h1,h2,h3,h4,h5,h6,h7,h8⟩:=h;exact⟨gO,k,B,nm,rid,vC,u,l,rl,t,ao hb h0,ao hb h1,ao hb h2,ao hb h3,ao hb h4,h5.below hb,h6,h7.below hb,h8⟩
theorem Hi{W:World}{v T:Nat}{id:Ls}{Lu:List Ls}(hv:jY W v id Lu)(zs:List (Option bo))(a:Option Addr)(cap:Nat)(x y:Value)(hT:W.heap[T]?=some (.cells #[.slice a zs.length cap,x,y] 74 (0,0)))(hl:zs.length<=1000)(hz:zs=[]\/∃gR,a=some ⟨gR,0,none⟩/\∀j z,zs[j]?=some z->qC W gR j id Lu z):
 Calls prog 26 #[.pointer (some ⟨v,0,none⟩),.pointer (some ⟨T,0,none⟩)] W fun e w'=>∃vO xs,e=.returned vO/\dw w' W.heap.size vO xs/\xs.map (·.1)=zs.filterMap (fun z=>z)/\Lt W w':=by
 obtain⟨iY,hiY,zY0,zY1,zY2⟩:=info_parts info37;have cT:=ae hT;have hlT:=ag hT;have HV:=aa hv;have HZ:=aa hz;have HT:=aa hT;clear hv hz hT;go_enter func26,ntmps26;go_wp2_with fail;clear cT;go_loopg [5,6,7,13] zs.length (fun m v5 v6 v7 v13 wr=>∃(i:Nat) (xs:List OX),v13=.int .i64 i/\i<=zs.length/\zs.length-i<=m/\xs.length<=i/\dw wr W.heap.size v5 xs/\Lt W wr/\xs.map (·.1)=(zs.take i).filterMap (fun z=>z))
 case atStart=>exact⟨0,[],rfl,KU _,KK _,KK _,dw.nil _ _,KL _ _,rfl⟩
 case round=>
  obtain⟨i,xs,rfl,hil,hm,hxi,hO,hb,hxs⟩:=hrel;obtain⟨aO,cO,hvO⟩:=bc hO.own;subst hvO;have HO:=aa hO;have HB:=aa hb;have HXS:=aa hxs;have cT:=ae ((hb.block _ hlT).trans HT.o);have hlTr:T<wr.heap.size:=KV hlT hb.size;clear hO hb hxs;by_cases hlt:i<zs.length
  ·obtain⟨z,hz⟩:∃z,zs[i]?=some z:=⟨_,KM hlt⟩
   obtain⟨gR,e,hR⟩:=HZ.o.resolve_left (fun e=>by rw[e]at hlt;simp at hlt);subst e;obtain⟨gO,k,B,nm,rid,vC,u,l,rl,t,h0,h1,h2,h3,h4,h5,h6,h7,h8⟩:=((hR i z hz).below HB.o).ex;have HTK:=aa (show(zs.take (i+1)).filterMap (fun z=>z)=(zs.take i).filterMap (fun z=>z)++z.toList from by
    rw[Ld,hz,List.filterMap_append];cases z<;>simp)
   have HHI:=aa (Di (HV.o.below HB.o) vC u l rl t h0 h4 h2 h5 h6 h7);have HTO:=aa (fun X (hX:Lt wr X)=>Fo (HV.o.below (bT HB.o hX)) vC l (ao hX h0) (ao hX h1) (ao hX h3) (ao hX h2) (h5.below hX) h6);have HZZ:=aa h8;generalize pW Lu id l rl t=q at*;generalize lx Lu l=cs at*;clear h0 h1 h2 h3 h4 h5 h7 h8 hz hR;go_wp2_with fail;refine HHI.o.mono ?_;rintro _ w1 ⟨rfl,b1⟩;have HB1:=aa (bT HB.o b1);have HO1:=aa (HO.o.far (fun k _ h2=>b1.block k h2) b1.size);cases q
   ·go_wp2_with fail
    refine(HTO.o _ b1).mono ?_;rintro _ w2 ⟨vO,rfl,ho,hcl,b2⟩;obtain⟨aQ,cQ,hvQ⟩:=bc ho;subst hvQ;have HOC:=aa ho;have HB2:=aa (bT HB1.o b2);have HO2:=aa (HO1.o.far (fun k _ h2=>b2.block k h2) b2.size);have hsz2:=HB2.o.size;have hsz12:=b2.size;have hlt':∀j,(Value.slice aO xs.length cO).ownBlock=some j->j<w1.heap.size:=fun j hj=>ep HO1.o.own j hj;clear ho b1 b2 HHI HTO cT;go_wp2_with (at_builtin;refine wpList_append_lies _ rfl _ _ 23 rfl W.heap.size 37 iY _ 3 56 underlying23 hiY zY0 zY1 zY2 rfl (by decide) _ _ _ rfl (HO2.o.own.alloc _) ⟨w2.heap.size,0,none⟩ 1 1 [.string nm,.string rid,.slice aQ cs.length cQ] rfl rfl (de _ _ _ _ (by simp)) (BO rfl rfl rfl) (by decide) (by unfold maxLen;omega) (by omega) (by simp;omega) (w2.heap.size+1) (by simp) ?_;intro g' LM x3 hown' hgrow hwh hgs;have MS:=aa hown';have LT:=aa hgrow;have HWH:=aa hwh;clear hown' hgrow hwh);have hgz:=LT.o.size;simp at hgz;have MX:=aa (show∀j,j<w2.heap.size->(Value.slice aO xs.length cO).ownBlock≠some j->x3.heap[j]?=w2.heap[j]? from fun j h1 h2=>(LT.o.block j (by simp;omega) (fun e=>h2 e.symm)).trans (bp _ _ _ h1));go_roundg (zs.length-(i+1))
    case measure=>omega
    case rel=>
     refine⟨i+1,xs++[((nm,rid,cs),.slice aQ cs.length cQ)],by go_num,by omega,KK _,by simp;omega,?_,?_,?_⟩
     ·exact HO2.o.push (x:=((nm,rid,cs),.slice aQ cs.length cQ)) HOC.o (by have:=HB1.o.size;omega) (fun z hz g e=>ep (HO1.o.sub z hz) g e) MS.o (fun j _ h2 h3=>MX.o j h2 h3)
     ·exact⟨LT.o.os.trans HB2.o.os,LT.o.tape.trans HB2.o.tape,LT.o.output.trans HB2.o.output,by omega,fun j hj=>(MX.o j (by omega) (jC HO1.o.own (by omega))).trans (HB2.o.block j hj)⟩
     ·rw[HTK.o,HZZ.o,Lr,HXS.o];rfl
   ·go_wp2_with fail
    go_roundg (zs.length-(i+1))
    case measure=>omega
    case rel=>exact⟨i+1,xs,by go_num,by omega,KK _,by omega,HO1.o,HB1.o,by rw[HTK.o,HZZ.o,HXS.o];simp⟩
  ·have hie:i=zs.length:=by omega
   subst hie;go_wp2_with fail;go_ret;exact⟨_,xs,rfl,HO.o,by rw[HXS.o,List.take_length],HB.o⟩
def rE:RV->Nat×Int×Ls
 | .mk sh n s _=>(sh,n,s)
def rL(l:List dd)(x:Ls):Nat×Int×Ls:=if ah (l.map Prod.fst) x<0 then(0,0,⟨#[]⟩)else match l[(ah (l.map Prod.fst) x).toNat]? with
 |some c=>rE (pv (du c.2))
 |none=>(0,0,⟨#[]⟩)
def mP(l:List dd)(id n:Ls)(y:Option (Nat×Int×Ls)):Bool:=decide (rL l n=iQ id (iK y).1 (iK y).2.1 (iK y).2.2)
theorem bI.k{w:World}{B:Nat->Prop}:∀{k:Nat} {f:FV} {r:RV},bI w B k f r->(f.sh,f.n,f.s)=rE r
 |0,_,.mk ..,h=>by rw[rE,h.1,h.2.1,h.2.2.1]
 |_+1,_,.mk ..,h=>by rw[rE,h.1,h.2.1,h.2.2.1]
theorem Ha(f:FV)(m:Nat×Int×Ls):pX f m=decide ((f.sh,f.n,f.s)=m):=by
 obtain⟨a,b,c⟩:=m;unfold pX;rw[bY];simp only[Prod.mk.injEq];by_cases h1:f.sh=a<;>by_cases h2:f.n=b<;>by_cases h3:f.s=c<;>simp[h1,h2,h3]<;>omega
theorem Ht{w:World}{B:Nat->Prop}{k:Nat}(cs:List eW)(l:List dd)(e:cs.map (fun c=>(c.f.name,c.t))=l)(hv:∀c∈cs,bI w B k c.c (pv (du c.t)))(id:Ls):pD cs id=mP l id:=by
 funext n y;unfold pD mP;rw[Ha];have hm:cs.map e8=l.map Prod.fst:=by rw[<-e,List.map_map];rfl
 have:((j7 cs n).sh,(j7 cs n).n,(j7 cs n).s)=rL l n:=by
  unfold j7 rL;rw[hm];split
  ·rfl
  ·rw[<-e,La]
   rcases hj:cs[(ah ((cs.map (fun c=>(c.f.name,c.t))).map Prod.fst) n).toNat]? with _|c<;>rw[hj]
   ·rfl
   ·exact(hv c (KN hj)).k
 rw[this]
def o9(Lu:List Ls)(LS:List ax)(x:Ls):Bool:=match LS[(ah (LS.map ax.name) x).toNat]? with
 |some f=>qB Lu f
 |none=>false
theorem A7(Lu:List Ls)(LS:List ax):∀(cs:List eW),(∀c∈cs,LS[(ah (LS.map ax.name) c.f.name).toNat]?=some c.f)->lx Lu cs=(cs.map (fun c=>(c.f.name,c.t))).filter (fun c=>o9 Lu LS c.1)
 |[],_=>rfl
 |c::cs,h=>by
  have ih:=A7 Lu LS cs (fun x hx=>h x (List.mem_cons_of_mem _ hx));have h1:o9 Lu LS c.f.name=qB Lu c.f:=by unfold o9;rw[h c List.mem_cons_self]
  unfold lx at ih⊢;rw[List.filter_cons,List.map_cons,List.filter_cons,h1];split
  ·rw[List.map_cons,ih]
  ·exact ih
def lO(Lx:List aH)(id:Ls)(Lu:List Ls)(y:bo):Option bo:=match Lx[(ah (Lx.map aH.name) y.1).toNat]? with
 |none=>none
 |some o=>if (o.Lw.isSome&&!iI (fun n=>ba n Lu) (mP y.2.2 id) o.tree)=true then none else some (o.name,y.2.1,y.2.2.filter (fun c=>o9 Lu o.fields c.1))
theorem qO.seen{w:World}{S gO gR j:Nat}{vR vO vI vU vN:Value}{LR:List (aj×Value)}{LO:List lF}{LI:List (bC×Value)}{LU:List (bB×Value)}{names:List Ls}(h:SV w S vR vO vI vU vN LR LO LI LU names)(hg:∃c,vO=.slice (some ⟨gO,0,none⟩) LO.length c){y:bo}(hr:qO w gO gR j (LO.map Prod.fst) y)(hk:(ah ((LO.map Prod.fst).map aH.name) y.1).toNat<LO.length)(hl:y.2.2.length<=1000000)(id:Ls)(Lu:List Ls):
 qC w gR j id Lu (lO (LO.map Prod.fst) id Lu y):=by
 obtain⟨r,ek,eid,h0,h1,h2,hp,hc,hv⟩:=hr.ex;obtain⟨c,hvO⟩:=hg;obtain⟨x,hx⟩:∃x,LO[r.k]?=some x:=⟨_,KM (by rw[ek];exact hk)⟩;obtain⟨g,cap,e,LQ⟩:=h.o.cell (fun _=>rfl) r.k x hx;rw[hvO]at e;cases e;have hox:(LO.map Prod.fst)[r.k]?=some x.1:=by rw[La,hx];rfl
 have hu:=(h.o.ok x (KN hx)).2.2.2.2;refine⟨gO,r.k*4,S,x.1.name,y.2.1,r.v,x.2.2.2,r.cs,x.1.Lw,x.1.tree,h0,h1,h2,by simpa using LQ 0 _ rfl,LQ 3 _ rfl,hp,?_,hu,?_⟩
 ·rw[<-hc.e,Ll]at hl;exact hl
 ·unfold lO
  rw[<-ek,hox];unfold pW;simp only;rw[Ht r.cs y.2.2 hc.e hv id,A7 Lu x.1.fields r.cs (fun c hcm=>hc.f c hcm x.1 hox),hc.e]
structure rg(w:World)(S:Nat)(c:b9):Prop where
 ex:∃vR vO vI vU vN LR LO LI LU,SV w S vR vO vI vU vN LR LO LI LU c.names/\LR.map Prod.fst=c.Lu/\LO.map Prod.fst=c.Lx/\LI.map Prod.fst=c.ifs/\LU.map Prod.fst=c.uns
theorem rg.below{w w':World}{S:Nat}{c:b9}(h:rg w S c)(hb:Lt w w'):rg w' S c:=by
 obtain⟨vR,vO,vI,vU,vN,LR,LO,LI,LU,h1,h2⟩:=h.ex;exact⟨vR,vO,vI,vU,vN,LR,LO,LI,LU,h1.below hb,h2⟩
theorem jx.v{w:World}{S:Nat}{c:b9}(h:jx w S c)(hl:nK c 804):rg w S c:=by
 obtain⟨vR,vO,vI,vU,vN,LR,LO,LI,LU,hS,hR,hO,hI,hU,hN,mR,mO,mI,mU⟩:=h.ex;obtain⟨l1,l2,l3,l4,l5⟩:=hl;rw[<-mR]at l1;rw[<-mO]at l2;rw[<-mI]at l3;rw[<-mU]at l4;exact⟨vR,vO,vI,vU,vN,LR,LO,LI,LU,⟨hS,hR,hO,hI,hU,hN,by simpa using l1,by simpa using l2,by simpa using l3,by simpa using l4,l5⟩,mR,mO,mI,mU⟩
theorem Gm(x:Ls)(w:World)(hs:x.size<=maxLen):
 Calls prog 22 #[.string x] w fun e w'=>∃q,e=.returned (.tuple #[.pointer q,.int .i64 (iw x)])/\Lt w w'/\(iw x=0->∃S,q=some ⟨S,0,none⟩/\rg w' S (cc (av x)).1):=by
 have hc:=FX x w hs;have hz:m6 (cc (av x)).1:=xl _ (xB x);have HQ:=aa (show iw x=if jW (cc (av x)).2=true then(if jz (cc (av x)).1=true then 0 else 2)else 1 from rfl);generalize iw x=FF at*;generalize cc (av x)=cs at*;have HZ:=aa hz;clear hz;cases hd:jW cs.2
 ·rw[hd]at hc HQ
  go_enter func22,ntmps22;go_wp2_with fail;refine hc.mono ?_;clear hc;rintro e w1 ⟨S,rfl,hS,hl,hB1⟩;go_wp2_with fail;go_ret2;exact⟨_,by rw[HQ.o];rfl,hB1,fun h=>by rw[HQ.o]at h;cases h⟩
 ·rw[hd]at hc HQ
  cases hr:jz cs.1
  ·rw[hr]at HQ
   go_enter func22,ntmps22;go_wp2_with fail;refine hc.mono ?_;clear hc;rintro e w1 ⟨S,rfl,hS,hl,hB1⟩;have hc2:=CG w1 S cs.1 hS hl HZ.o;rw[hr]at hc2;clear hS hl hr;go_wp2_with fail;refine hc2.mono ?_;clear hc2;rintro e w2 ⟨rfl,hb2⟩;go_wp2_with fail;go_ret2;exact⟨_,by rw[HQ.o];rfl,hB1.trans (hb2.mono hB1.size),fun h=>by rw[HQ.o]at h;cases h⟩
  ·rw[hr]at HQ
   go_enter func22,ntmps22;go_wp2_with fail;refine hc.mono ?_;clear hc;rintro e w1 ⟨S,rfl,hS,hl,hB1⟩;have hc2:=CG w1 S cs.1 hS hl HZ.o;rw[hr]at hc2;have HV:=aa (hS.v hl);clear hS hl hr;go_wp2_with fail;refine hc2.mono ?_;clear hc2;rintro e w2 ⟨rfl,hb2⟩;go_wp2_with fail;go_ret2;exact⟨_,by rw[HQ.o];rfl,hB1.trans (hb2.mono hB1.size),fun _=>⟨S,rfl,HV.o.below hb2⟩⟩
section
variable {w:World} {S:Nat} {vR vO vI vU vN:Value} {LR:List (aj×Value)} {LO:List lF} {LI:List (bC×Value)} {LU:List (bB×Value)} {names:List Ls}
theorem G7(h:SV w S vR vO vI vU vN LR LO LI LU names)(hnd:(LR.map rN).Nodup)(Nd:∀x∈LR,∀y∈x.1.LA,y∈LR.map rN/\y.size<=4000)(hsz:∀y∈LR.map rN,y.size<=4000)(LK vid:Ls)(hr:LK.size<=2000000):
 Calls prog 25 #[.pointer (some ⟨S,0,none⟩),.agg #[.string LK,.string vid]] w fun e w'=>∃q,e=.returned (.tuple #[.pointer q,.int .i64 (if fW (LR.map Prod.fst) LK=[]then 4 else 0)])/\Lt w w'/\(fW (LR.map Prod.fst) LK≠[]->∃V,q=some ⟨V,0,none⟩/\jY w' V vid (fW (LR.map Prod.fst) LK)):=by
 have HH:=aa (fun X (hX:Lt w X)=>Dx (h.below hX) hnd Nd hsz LK hr);generalize fW (LR.map Prod.fst) LK=rs at*;clear h hnd Nd hsz;by_cases hne:rs=[]
 ·subst hne
  rw[K9 rfl];go_enter func25,ntmps25;go_wp2_with fail;refine(HH.o _ (bA (KL _ _) _)).mono ?_;rintro _ w1 ⟨v,rfl,⟨a,cap,rfl, -⟩, -,b1⟩;go_wp2_with fail;go_ret2;exact⟨_,rfl,bT (bA (KL _ _) _) b1,fun h=>absurd rfl h⟩
 ·rw[K8 hne]
  have hpos:¬(rs.length:Int)=0:=fun e=>hne (KZ (by omega));have HNE:=aa hne;clear hne;go_enter func25,ntmps25;go_wp2_with fail;refine(HH.o _ (bA (KL _ _) _)).mono ?_;rintro _ w1 ⟨v,rfl,hv,hvl,b1⟩;have HV:=aa hv;have hN:=fO b1 (KS w (.cells #[.string LK,.string vid] 25));have HB1:=aa (bT (bA (KL _ _) _) b1);have cN:=ae hN;have hlN:=ag hN;obtain⟨a,cap,rfl, -⟩:=hv;clear hN b1;go_wp2_with fail;go_ret2;exact⟨_,rfl,bA HB1.o _,fun _=>⟨w1.heap.size,rfl,⟨⟨a,cap,KS w1 _,HV.o.below (bA (KL _ _) _)⟩,by omega⟩⟩⟩
end
def kO(c:b9)(ys:List bo):Bool:=lT c.Lx (c.ifs.map bC.name) (c.uns.map bB.name) c.uns ys
def km(x:Ls)(ys:List bo):Nat:=if iw x=0 then(if kO (cc (av x)).1 ys=true then 0 else 3)else iw x
structure qA(w:World)(T:Nat)(c:b9)(ys:List bo):Prop where
 ex:∃S gO vR vO vI vU vN LR LO LI LU,SV w S vR vO vI vU vN LR LO LI LU c.names/\LR.map Prod.fst=c.Lu/\LO.map Prod.fst=c.Lx/\(∃k,vO=.slice (some ⟨gO,0,none⟩) LO.length k)/\qR w T S gO c.Lx ys
theorem ro(x:Ls)(h:iw x=0):jz (cc (av x)).1=true:=by
 unfold iw at h;split at h
 ·split at h
  ·assumption
  ·cases h
 ·cases h
theorem FA{c:b9}(h:jz c=true):c.Lx≠[]:=fun e=>by
 unfold jz at h;simp only[Li]at h;have:=h.2.2.2.2.2;rw[e]at this;cases this
theorem CV(x:Ls)(w:World)(hs:x.size<=maxLen)(aY:Option Addr)(cY:Nat)(ys:List bo)(hY:eM w (.slice aY ys.length cY) ys)(hyl:ys.length<=1000000)(hcl:∀y∈ys,y.2.1.size<=2000000/\y.2.2.length<=900000/\∀c∈y.2.2,c.2.size<=2000000):
 Calls prog 24 #[.string x,.slice aY ys.length cY] w fun e w'=>∃q,e=.returned (.tuple #[.pointer q,.int .i64 (km x ys)])/\Lt w w'/\(km x ys=0->∃T,q=some ⟨T,0,none⟩/\qA w' T (cc (av x)).1 ys):=by
 have HR:=aa (Gm x w hs);have HRC:=aa (show km x ys=if iw x=0 then(if kO (cc (av x)).1 ys=true then 0 else 3)else iw x from rfl);have HRI:=aa (ro x);generalize km x ys=RC at*;generalize iw x=k at*;generalize (cc (av x)).1=c at*;by_cases hk:k=0
 ·subst hk
  rw[K9 rfl]at HRC;have HO:=aa (FA (HRI.o rfl));go_enter func24,ntmps24;go_wp2_with fail;refine HR.o.mono ?_;rintro _ w1 ⟨q,rfl,b1,hS⟩;obtain⟨S,rfl,hS2⟩:=hS trivial;obtain⟨vR,vO,vI,vU,vN,LR,LO,LI,LU,hsv,mR,mO,mI,mU⟩:=hS2.ex;obtain⟨gO,hgO⟩:∃gO,∃k,vO=.slice (some ⟨gO,0,none⟩) LO.length k:=by
   rcases hsv.o.own.2 with⟨_,e⟩|⟨g,cap,cur,hv,_⟩
   ·exact absurd (by rw[<-mO,KZ e];rfl) HO.o
   ·exact⟨g,cap,hv⟩
  have HSR:=aa (Gw w1 hsv hgO aY cY ys (hY.below b1) hyl hcl);have HK:=aa (And.intro hsv (And.intro mR (And.intro mO hgO)));have e1:lT (LO.map Prod.fst) (LI.map iN) (LU.map uN) (LU.map Prod.fst) ys=kO c ys:=by
   unfold kO;rw[mO,mU,<-mI,<-mU,List.map_map,List.map_map];rfl
  rw[e1]at HSR;rw[mO]at HSR;generalize kO c ys=st at*;clear hS hS2 hsv mR mO mI mU hgO e1 hY hcl;cases st
  ·go_wp2_with fail
   refine HSR.o.mono ?_;rintro _ w2 ⟨q,rfl,b2, -⟩;go_wp2_with fail;go_ret2;exact⟨_,by rw[HRC.o];rfl,bT b1 b2,fun e=>by rw[HRC.o]at e;cases e⟩
  ·go_wp2_with fail
   refine HSR.o.mono ?_;rintro _ w2 ⟨q,rfl,b2,hT⟩;obtain⟨T,rfl,hT2⟩:=hT trivial;go_wp2_with fail;go_ret2;obtain⟨h1,h2,h3,h4⟩:=HK.o;exact⟨_,by rw[HRC.o];rfl,bT b1 b2,fun _=>⟨T,rfl,S,gO,vR,vO,vI,vU,vN,LR,LO,LI,LU,h1.below b2,h2,h3,h4,hT2⟩⟩
 ·rw[K8 hk]at HRC
  have hk2:¬(k:Int)=0:=by omega
  have HK:=aa hk;clear hk hY hcl;go_enter func24,ntmps24;go_wp2_with fail;refine HR.o.mono ?_;rintro _ w1 ⟨q,rfl,b1, -⟩;go_wp2_with fail;go_ret2;exact⟨_,by rw[HRC.o];rfl,b1,fun e=>absurd (HRC.o.symm.trans e) HK.o⟩
def iO(x:Ls)(ys:List bo)(LK vid:Ls):List bo×Nat:=if km x ys=0 then(if fW (cc (av x)).1.Lu LK=[]then([],4)else((ys.map (lO (cc (av x)).1.Lx vid (fW (cc (av x)).1.Lu LK))).filterMap (fun z=>z),0))else([],km x ys)
structure rX(l:List aj):Prop where
 n:(l.map aj.name).Nodup
 i:∀x∈l,∀y∈x.LA,y∈l.map aj.name/\y.size<=4000
 s:∀y∈l.map aj.name,y.size<=4000
theorem yz{c:b9}(h:jz c=true)(hz:m6 c):rX c.Lu:=by
 unfold jz r9 at h;simp only[Li]at h;obtain⟨⟨h1,h2, -⟩, -⟩:=h;refine⟨(kR _).1 h1,fun x hx y hy=>?_,fun y hy=>?_⟩
 ·rw[Lh]at h2
  have h3:=h2 x hx;rw[Lh]at h3;exact⟨(ii _ _).1 (h3 y hy),(hz.1 x hx).2 y hy⟩
 ·obtain⟨x,hx,rfl⟩:=List.mem_map.1 hy
  exact(hz.1 x hx).1
theorem BY{x:Ls}{ys:List bo}(h:km x ys=0):iw x=0/\kO (cc (av x)).1 ys=true:=by
 unfold km at h;split at h
 ·refine⟨‹_›,?_⟩
  split at h
  ·assumption
  ·cases h
 ·exact absurd h ‹_›
theorem qA.rows{w:World}{T:Nat}{c:b9}{ys:List bo}(h:qA w T c ys)(hs:kO c ys=true)(hcl:∀y∈ys,y.2.2.length<=1000000)(id:Ls)(Lu:List Ls):
 ∃a cap u v,w.heap[T]?=some (.cells #[.slice a ys.length cap,u,v] 74 (0,0))/\(ys.map (lO c.Lx id Lu)=[]\/∃gR,a=some ⟨gR,0,none⟩/\∀j z,(ys.map (lO c.Lx id Lu))[j]?=some z->qC w gR j id Lu z):=by
 obtain⟨S,gO,vR,vO,vI,vU,vN,LR,LO,LI,LU,hsv,mR,mO,hg,hT⟩:=h.ex;obtain⟨a,cap,M,hb,hr⟩:=hT.ex;refine⟨a,cap,_,_,hb,?_⟩;rcases hr with e|⟨gR,ea,hr⟩
 ·left;rw[e];rfl
 ·refine Or.inr ⟨gR,ea,fun j z hz=>?_⟩
  rw[La]at hz;rcases hj:ys[j]? with _|y<;>rw[hj]at hz
  ·simp at hz
  ·simp only[Option.map_some,Option.some.injEq]at hz
   subst hz;have hi:0<=ah (c.Lx.map aH.name) y.1:=by
    unfold kO lT at hs;simp only[Li]at hs;exact r7 _ _ _ hs.2.1 y (KN hj)
   obtain⟨fi,o,e1,e2, -⟩:=iW aH.name c.Lx y.1 (by omega);rw[<-mO]at hr e1 e2⊢;exact(hr j y hj).seen hsv hg (by rw[e1];have:=(KO.1 e2).1;simpa using this) (hcl y (KN hj)) id Lu
theorem qA.below{w w':World}{T:Nat}{c:b9}{ys:List bo}(h:qA w T c ys)(hb:Lt w w'):qA w' T c ys:=by
 obtain⟨S,gO,vR,vO,vI,vU,vN,LR,LO,LI,LU,hsv,mR,mO,hg,hT⟩:=h.ex;exact⟨S,gO,vR,vO,vI,vU,vN,LR,LO,LI,LU,hsv.below hb,mR,mO,hg,hT.below hb⟩
theorem Fz(x:Ls)(w:World)(hs:x.size<=maxLen)(aY:Option Addr)(cY:Nat)(ys:List bo)(LK vid:Ls)(hY:eM w (.slice aY ys.length cY) ys)(hyl:ys.length<=1000000)(hcl:∀y∈ys,y.2.1.size<=2000000/\y.2.2.length<=900000/\∀c∈y.2.2,c.2.size<=2000000)(hk:¬km x ys=0):
 Calls prog 13 #[.string x,.slice aY ys.length cY,.agg #[.string LK,.string vid]] w fun e w'=>e=.returned (.tuple #[.slice none 0 0,.int .i64 (km x ys)])/\Lt w w':=by
 have HR:=aa (fun X (hX:Lt w X)=>CV x X hs aY cY ys (hY.below hX) hyl hcl);generalize km x ys=k at*;have hk2:¬(k:Int)=0:=by omega
 clear hk hY hcl;go_enter func13,ntmps13;go_wp2_with fail;refine(HR.o _ (bA (KL _ _) _)).mono ?_;rintro _ w1 ⟨q,rfl,b1, -⟩;go_wp2_with fail;go_ret2;exact⟨rfl,bT (bA (KL _ _) _) b1⟩
theorem GT(x:Ls)(w:World)(hs:x.size<=maxLen)(aY:Option Addr)(cY:Nat)(ys:List bo)(LK vid:Ls)(hr:LK.size<=2000000)(hY:eM w (.slice aY ys.length cY) ys)(hyl:ys.length<=1000000)(hcl:∀y∈ys,y.2.1.size<=2000000/\y.2.2.length<=900000/\∀c∈y.2.2,c.2.size<=2000000)(hk:km x ys=0):
 Calls prog 13 #[.string x,.slice aY ys.length cY,.agg #[.string LK,.string vid]] w fun e w'=>∃vO xs,e=.returned (.tuple #[vO,.int .i64 (iO x ys LK vid).2])/\dw w' w.heap.size vO xs/\xs.map (·.1)=(iO x ys LK vid).1/\Lt w w':=by
 have HR:=aa (fun X (hX:Lt w X)=>CV x X hs aY cY ys (hY.below hX) hyl hcl);obtain⟨hch,hst⟩:=BY hk;have hok:=yz (ro x hch) (xl _ (xB x));have HSP:=aa (show iO x ys LK vid=if fW (cc (av x)).1.Lu LK=[]then([],4)else((ys.map (lO (cc (av x)).1.Lx vid (fW (cc (av x)).1.Lu LK))).filterMap (fun z=>z),0)from by unfold iO;rw[K9 hk]);rw[hk]at HR;generalize iO x ys LK vid=SP at*;generalize (cc (av x)).1=c at*;have HOK:=aa hok;have HST:=aa hst;have HCL:=aa hcl;have hyl2:ys.length<=200:=by
  unfold kO lT at hst;simp only[Li,Lc]at hst;exact hst.1
 clear hk hch hst hok hY hcl;go_enter func13,ntmps13;go_wp2_with fail;refine(HR.o _ (bA (KL _ _) _)).mono ?_;rintro _ w1 ⟨q,rfl,b1,hK⟩;obtain⟨T,rfl,hK2⟩:=hK trivial;have hN:=fO b1 (KS w (.cells #[.string LK,.string vid] 25));have HB1:=aa (bT (bA (KL _ _) _) b1);have HK:=aa hK2;obtain⟨S,gO,vR,vO,vI,vU,vN,LR,LO,LI,LU,hsv,mR,mO,hg,hT⟩:=hK2.ex;obtain⟨a,cap,M,hb, -⟩:=hT.ex;have em:LR.map rN=c.Lu.map aj.name:=by rw[<-mR,List.map_map];rfl
 have HOF:=aa (fun X (hX:Lt w1 X)=>G7 (hsv.below hX) (by rw[em];exact HOK.o.n) (fun x hx y hy=>by rw[em];exact HOK.o.i x.1 (by rw[<-mR];exact List.mem_map_of_mem hx) y hy) (fun y hy=>HOK.o.s y (by rw[<-em];exact hy)) LK vid hr);rw[mR]at HOF;generalize fW c.Lu LK=rs at*;have cN:=ae hN;have cT:=ae hb;have hlN:=ag hN;have hlT:=ag hb;clear hK hK2 hsv mR mO hg hT em HR b1 hN hb;by_cases hrs:rs=[]
 ·rw[K9 hrs]at HOF HSP
  clear hrs;go_upto_region 4 with fail;have HS:=aa (fun V (hV:Lt w1 V)=>And.intro hV (And.intro (fun k=>(hV.cell (p:=⟨w.heap.size,k,none⟩) hlN).trans (cN k)) (fun k=>(hV.cell (p:=⟨T,k,none⟩) hlT).trans (cT k))));clear cN cT;go_region_held3 (fun V=>Lt w1 V/\(∀k,V.cell? ⟨w.heap.size,k,none⟩=(#[.string LK,.string vid]:Array Value)[k]?)/\(∀k,V.cell? ⟨T,k,none⟩=(#[.slice a ys.length cap,.pointer (some ⟨S,0,none⟩),.map (some M)]:Array Value)[k]?))
   (first|exact HS.o _ (KL _ _).drew|exact HS.o _ (bT bh b2))
   (first|(go_at_call 25;obtain⟨bh, -⟩:= ‹Lt w1 _/\_›;refine(HOF.o _ bh).mono ?_;rintro _ w2 ⟨q,rfl,b2,hv2⟩;have HV2:=aa hv2;clear hv2))
  all_goals(obtain⟨bh, -⟩:= ‹Lt w1 _/\_›;(try go_wp2_with fail);go_ret2;exact⟨_,[],by rw[HSP.o];rfl,dw.nil _ _,by rw[HSP.o];rfl,bT HB1.o bh⟩)
 ·rw[K8 hrs]at HOF HSP
  have HRS:=aa hrs;clear hrs;go_upto_region 4 with fail;have HS:=aa (fun V (hV:Lt w1 V)=>And.intro hV (And.intro (fun k=>(hV.cell (p:=⟨w.heap.size,k,none⟩) hlN).trans (cN k)) (fun k=>(hV.cell (p:=⟨T,k,none⟩) hlT).trans (cT k))));clear cN cT;go_region_held3 (fun V=>Lt w1 V/\(∀k,V.cell? ⟨w.heap.size,k,none⟩=(#[.string LK,.string vid]:Array Value)[k]?)/\(∀k,V.cell? ⟨T,k,none⟩=(#[.slice a ys.length cap,.pointer (some ⟨S,0,none⟩),.map (some M)]:Array Value)[k]?))
   (first|exact HS.o _ (KL _ _).drew|exact HS.o _ (bT bh b2))
   (first|(go_at_call 25;obtain⟨bh, -⟩:= ‹Lt w1 _/\_›;refine(HOF.o _ bh).mono ?_;rintro _ w2 ⟨q,rfl,b2,hv2⟩;have HV2:=aa hv2;clear hv2))
  all_goals(
   obtain⟨bh, -⟩:= ‹Lt w1 _/\_›;obtain⟨V,rfl,hV⟩:=HV2.o HRS.o;obtain⟨a',LM,u',v',hT',Ma⟩:=(HK.o.below bh).rows HST.o (fun y hy=>by have:=(HCL.o y hy).2.1;omega) vid rs;rw[<-Ll (f:=lO c.Lx vid rs)]at hT';have HRW:=aa (Hi hV (ys.map (lO c.Lx vid rs)) a' LM u' v' hT' (by rw[Ll];omega) Ma);clear hV hT' Ma HK HOF HV2;go_wp2_with fail;refine HRW.o.mono ?_;rintro _ w3 ⟨vO,xs,rfl,hO,hxs,b3⟩;go_wp2_with fail;go_ret2;exact⟨_,xs,by rw[HSP.o];rfl,hO.low (bT HB1.o bh).size,by rw[HSP.o];exact hxs,bT (bT HB1.o bh) b3⟩)
theorem yb(x:Ls)(w:World)(hs:x.size<=maxLen)(aY:Option Addr)(cY:Nat)(ys:List bo)(LK vid:Ls)(hr:LK.size<=2000000)(hY:eM w (.slice aY ys.length cY) ys)(hyl:ys.length<=1000000)(hcl:∀y∈ys,y.2.1.size<=2000000/\y.2.2.length<=900000/\∀c∈y.2.2,c.2.size<=2000000):
 Calls prog 13 #[.string x,.slice aY ys.length cY,.agg #[.string LK,.string vid]] w fun e w'=>∃vO xs,e=.returned (.tuple #[vO,.int .i64 (iO x ys LK vid).2])/\dw w' w.heap.size vO xs/\xs.map (·.1)=(iO x ys LK vid).1/\Lt w w':=by
 by_cases hk:km x ys=0
 ·exact GT x w hs aY cY ys LK vid hr hY hyl hcl hk
 ·refine(Fz x w hs aY cY ys LK vid hY hyl hcl hk).mono ?_
  rintro _ w' ⟨rfl,hb⟩;have e:iO x ys LK vid=([],km x ys):=by unfold iO;rw[K8 hk]
  exact⟨_,[],by rw[e],dw.nil _ _,by rw[e];rfl,hb⟩
theorem yT{Lu:List aj}(hK:∀r∈Lu,∀y∈r.LA,y∈Lu.map aj.name)(i j:Nat):(dV Lu (2*Lu.length+1) ([i],List.replicate Lu.length false)).getD j false=true↔∃k,Reach (jl Lu) i k/\jl Lu k j:=by
 have hin:∀i,∀y∈kx Lu i,(ah (Lu.map aj.name) y).toNat<Lu.length:=by
  intro i y hy;cases hr:Lu[i]? with
  |none=>unfold kx at hy;rw[hr]at hy;simp at hy
  |some r=>
   rw[pC Lu i r hr]at hy;obtain⟨k,rc,h1,h2,h3,h4⟩:=j3 aj.name Lu y ((iT _ _).2 (hK r (KN hr) y hy));rw[h1,Lk];exact h4
 have hfr:∀j,(List.replicate Lu.length false).getD j false=false:=by
  intro j;rw[List.getD_eq_getElem?_getD,List.getElem?_replicate];split<;>rfl
 refine wD Lu i hin _ _ ?_ (by simp) ?_ ?_ ?_ j
 ·unfold fe pr
  simp[List.countP_replicate]
 ·intro j hj
  rw[hfr j]at hj;cases hj
 ·intro j hj
  simp at hj;subst hj;exact Reach.refl _
 ·intro k hk
  rcases hk with e|e
  ·left;simp[e]
  ·rw[hfr k]at e;cases e
theorem y6:∀(ns:List Ls) (F:List Bool) (y:Ls),y∈ma (ns.zip F)↔∃j,ns[j]?=some y/\F.getD j false=true
 |[],F,y=>by simp[ma]
 |n::ns,[],y=>by simp[ma]
 |n::ns,b::F,y=>by
  have ih:=y6 ns F y;have e:y∈ma ((n::ns).zip (b::F))↔(b=true/\y=n)\/y∈ma (ns.zip F):=by
   unfold ma;rw[List.zip_cons_cons,List.filter_cons];cases b<;>simp
  rw[e,ih];constructor
  ·rintro(⟨h1,h2⟩|⟨j,h1,h2⟩)
   ·exact⟨0,by rw[h2];rfl,h1⟩
   ·exact⟨j+1,by simpa using h1,by simpa using h2⟩
  ·rintro⟨j,h1,h2⟩
   cases j with
   |zero=>left;simp at h1 h2;exact⟨h2,h1.symm⟩
   |succ j=>right;exact⟨j,by simpa using h1,by simpa using h2⟩
theorem BQ{Lu:List aj}(hok:rX Lu){LK:Ls}(hr:¬ah (Lu.map aj.name) LK<0)(y:Ls):ba y (fW Lu LK)=ba y (iE Lu LK):=by
 have hK:∀r∈Lu,∀y∈r.LA,y∈Lu.map aj.name:=fun r h y hy=>(hok.i r h y hy).1;obtain⟨i,r,e1,e2,e3,e4⟩:=j3 aj.name Lu LK hr;rw[Bool.eq_iff_iff,ii,ii,vg];unfold fW;rw[K8 hr,List.mem_cons,y6,e1,Lk];constructor
 ·rintro(e|⟨j,h1,h2⟩)
  ·rw[e];exact Reach.refl _
  ·obtain⟨k,h3,h4⟩:=(yT hK i j).1 h2
   obtain⟨r',h5,h6⟩:=CE Lu hok.n hK e2 (Reach.step h3 h4);rw[La,h5]at h1;cases h1;rw[e3]at h6;exact h6
 ·intro h
  cases h with
  |refl=>left;rfl
  | @step b _ hb he=>
    right;have hm:LK∈Lu.map aj.name:=(iT _ _).1 hr;obtain⟨q1,q2⟩:=vh Lu hK hm (Reach.step hb he);obtain⟨q3,q4⟩:=vh Lu hK hm hb;obtain⟨kb,rb,h1,h2,h3,_⟩:=j3 aj.name Lu b ((iT _ _).2 q3);obtain⟨ky,ry,g1,g2,g3,_⟩:=j3 aj.name Lu y ((iT _ _).2 q1);refine⟨ky,by rw[La,g2,<-g3];rfl,(yT hK i ky).2 ⟨kb,?_,y,?_,?_⟩⟩
    ·rw[e1,h1,Lk,Lk]at q4;exact q4
    ·rw[pC Lu kb rb h2,<-vr Lu kb rb b h1 h2];exact he
    ·rw[g1,Lk]
theorem Bf{Lu:List aj}{LK:Ls}:fW Lu LK=[]↔ah (Lu.map aj.name) LK<0:=by
 unfold fW;split<;>simp_all
theorem Ar{Lu:List aj}(hok:rX Lu){LK:Ls}(hr:¬ah (Lu.map aj.name) LK<0)(y:Ls):jd (fW Lu LK) y=ic Lu LK y:=by
 unfold jd ic;rw[BQ hok hr]
theorem Iy{Lu:List aj}(hok:rX Lu){LK:Ls}(hr:¬ah (Lu.map aj.name) LK<0)(LS:List ax)(n:Ls):o9 (fW Lu LK) LS n=mN Lu LK (LS.map dg) n:=by
 have e:(LS.map dg).map bj.name=LS.map ax.name:=by rw[List.map_map];rfl
 unfold o9 mN;rw[e,La];cases LS[(ah (LS.map ax.name) n).toNat]? with
 |none=>rfl
 |some f=>show qB _ _=_;unfold qB;rw[Ar hok hr,Ar hok hr];rfl
theorem CW(c:b9)(s:St)(hw:jc s)(hc:∀n∈c.names,jF n)(hs:(bX c s).2≠none):∀n∈(bX c s).1.names,jF n:=by
 have w1:=(dY s).wd hw;have key:ab (ab s)≠none->∀n∈c.names++[nm (ab s)],jF n:=fun h n hn=>by
  rcases List.mem_append.1 hn with e|e
  ·exact hc n e
  ·rw[List.mem_singleton]at e;rw[e];exact zd _ w1 h
 unfold bX at hs⊢;by_cases e1:nm s=oe
 ·rw[K9 e1]at hs⊢;exact hc
 ·rw[K8 e1]at hs⊢
  by_cases e2:nm s=oG
  ·rw[K9 e2]at hs⊢
   dsimp only at hs⊢;have hpo:(cn (ab s)).2=(dC (ey (dH (ab (ab s))).2).2).2:=by unfold cn;dsimp only
   rw[hpo]at hs;exact key (nw (qN _) (nw (ss _) (nw (oz _) hs)))
  ·rw[K8 e2]at hs⊢
   by_cases e3:nm s=pF
   ·rw[K9 e3]at hs⊢
    exact key (nw (oz _) hs)
   ·rw[K8 e3]at hs⊢
    by_cases e4:nm s=pA
    ·rw[K9 e4]at hs⊢
     exact key (nw (C5 _) hs)
    ·rw[K8 e4]at hs
     exact absurd rfl hs
theorem Cn:∀(f:Nat) (c:b9) (s:St),jc s->(s≠none->∀n∈c.names,jF n)->(gH f c s).2≠none->∀n∈(gH f c s).1.names,jF n
 |0,c,s,_,hc,hs=>hc hs
 |f+1,c,s,hw,hc,hs=>by
  rw[gH]at hs⊢;by_cases ha:eu s=true
  ·rw[K9 ha]at hs⊢;exact hc hs
  ·rw[K8 ha]at hs⊢
   have h0:s≠none:=by intro e;rw[e]at ha;exact ha rfl
   exact Cn f _ _ (((sK c s).trans (dY s)).wd hw) (fun hn=>CW c s hw (hc h0) hn) hs
theorem GH(x:Ls)(h:jW (cc (av x)).2=true):∀n∈(cc (av x)).1.names,jF n:=by
 have hn:(cc (av x)).2≠none:=fun e=>by rw[e]at h;simp[jW]at h
 have hw:=p8 x;unfold cc at hn⊢;exact Cn 801 _ _ (((sK d8 _).trans (dY _)).wd hw) (fun hn=>CW d8 _ hw (fun n hn=>by simp[d8]at hn) hn) hn
theorem Cf(n:Int)(s c:Ls):kD (cW (1,n,s)).1 c=decide (c=j9):=by
 show kD 1 c=_;unfold kD;rw[K9 rfl,bV];rfl
theorem zX(n:Int)(s c:Ls):kD (cW (2,n,s)).1 c=(decide (c=oS)||decide (c=lB)):=by
 show kD 2 c=_;unfold kD;rw[K8 (by decide),K9 rfl,bV,bV];rfl
theorem Az(n:Int)(s c:Ls):kD (cW (3,n,s)).1 c=decide (c=nx):=by
 have:(cW (3,n,s)).1=3\/(cW (3,n,s)).1=4:=by unfold cW;simp only[if_true];split<;>simp
 unfold kD;rcases this with e|e<;>rw[e,K8 (by decide),K8 (by decide),K9 (by decide),bV]<;>rfl
theorem vB(R R':Ls->Ls->Bool)(hsc:∀c s,co c=true->R c s=false)(hE:∀s,R ⟨#[]⟩ s=false):∀(ty:dh),(∀s,co (bN ty)=false->R (bN ty) s=R' (bN ty) s)->∀(m:Nat) (r:RV),kA m r->eD R ty r=fk R' ty r
 | .one c st,hR,m,.mk sh n s l,ho=>by
   have h6:=ho.one.1;rw[eD,fk];have hsb:co c=(decide (c=j9)||decide (c=oS)||decide (c=nx)||decide (c=lB)):=rfl;have n1:j9≠oS:=by decide
   have n2:j9≠lB:=by decide
   have n3:j9≠nx:=by decide
   have n4:oS≠nx:=by decide
   have n5:lB≠nx:=by decide
   have hR':=hR s;have hS':=hsc c s;rw[show bN (.one c st)=c from rfl]at hR';have:sh=0\/sh=1\/sh=2\/sh=3\/sh=4\/sh=5\/sh=6:=by omega
   rcases this with e|e|e|e|e|e|e<;>subst e
   ·simp
   ·rw[Cf];by_cases q:c=j9
    ·simp[q]
    ·simp[q]
   ·rw[zX];by_cases q:c=j9
    ·simp[q,n1,n2]
    ·simp[q]
   ·rw[Az];by_cases q:c=nx
    ·simp[q,n3.symm,n4.symm,n5.symm]
    ·simp[q]
   ·by_cases hs:co c=true
    ·rw[hS' hs]
     rw[hsb]at hs;simp only[Bool.or_eq_true,Lc]at hs;rcases hs with((e|e)|e)|e<;>simp[e]
    ·rw[Bool.not_eq_true]at hs
     rw[hR' hs];rw[hsb]at hs;simp only[Bool.or_eq_false_iff,decide_eq_false_iff_not]at hs;obtain⟨⟨⟨a1,a2⟩,a3⟩,a4⟩:=hs;simp[a1,a2,a3,a4]
   ·simp
   ·simp
 | .list t st,hR,m,.mk sh n s l,ho=>by
   obtain⟨h6, -, -,hl⟩:=ho.one;have ih:l.all (eD R t)=l.all (fk R' t):=by
    rw[Bool.eq_iff_iff,Lh,Lh];constructor
    ·intro h r hr;rw[<-vB R R' hsc hE t hR (m-1) r (hl r hr)];exact h r hr
    ·intro h r hr;rw[vB R R' hsc hE t hR (m-1) r (hl r hr)];exact h r hr
   have n1:(⟨#[]⟩:Ls)≠j9:=by decide
   have n2:(⟨#[]⟩:Ls)≠oS:=by decide
   have n3:(⟨#[]⟩:Ls)≠lB:=by decide
   have n4:(⟨#[]⟩:Ls)≠nx:=by decide
   rw[eD,fk,ih,hE];have:sh=0\/sh=1\/sh=2\/sh=3\/sh=4\/sh=5\/sh=6:=by omega
   rcases this with e|e|e|e|e|e|e<;>subst e
   ·simp
   ·rw[Cf];simp[n1]
   ·rw[zX];simp[n2,n3]
   ·rw[Az];simp[n4]
   ·simp
   ·simp
   ·simp
structure i8(c:b9)(d:eG)(M:List PD):Prop where
 o:c.Lx=M.filterMap PD.isO
 i:c.ifs=M.filterMap PD.isI
 u:c.uns=M.filterMap PD.isU
 f:F2 fG d.Lv M
 n:(M.map PD.name).Nodup
 s:∀m∈M,co m.name=false
 w:∀m∈M,jF m.name
theorem AV(x:Ls)(h:iw x=0):∃M,i8 (cc (av x)).1 (cE (av x)).1 M/\(cE (av x)).1.Lu=(cc (av x)).1.Lu:=by
 have hr:=ro x h;have hd:jW (cc (av x)).2=true:=by
  unfold iw at h;split at h
  ·assumption
  ·cases h
 have hS:=(r8 (av x) (ph x) (p8 x)).2 hd;have hnm:=GH x hd;obtain⟨M,m1,m2,m3,m4,m5⟩:=hS.ex;unfold jz mB at hr;simp only[Li]at hr;obtain⟨-,⟨h1,h2⟩, -⟩:=hr;rw[m4]at h1 h2 hnm;rw[kR]at h2;rw[Lh]at h1;refine⟨M,⟨m1,m2,m3,m5,h2,fun m hm=>?_,fun m hm=>hnm _ (List.mem_map_of_mem hm)⟩,hS.Lu⟩;have:=h1 _ (List.mem_map_of_mem hm);simpa using this
section
variable {c:b9} {d:eG} {M:List PD}
theorem i8.kind(h:i8 c d M):aZ (c.Lx.map aH.name) (c.ifs.map bC.name) (c.uns.map bB.name)=dF M:=by rw[h.o,h.i,h.u];rfl
theorem i8.obj(h:i8 c d M)(x:Ls)(hx:0<=ah (c.Lx.map aH.name) x):∃(o:aH) (k:Nat) (t:ap),c.Lx[(ah (c.Lx.map aH.name) x).toNat]?=some o/\o.name=x/\PD.o o∈M/\o∈c.Lx/\ah (d.Lv.map ap.name) x=k/\d.Lv[k]?=some t/\fG t (.o o):=by
 obtain⟨j,o,h1,h2,h3,_⟩:=j3 aH.name c.Lx x (by omega);have hm:=KN h2;have ho:PD.o o∈M:=by
  have:=hm;rw[h.o]at this;obtain⟨m,hm2,hq⟩:=List.mem_filterMap.1 this;cases m with
  |o z=>simp[PD.isO]at hq;subst hq;exact hm2
  |i z=>cases hq
  |u z=>cases hq
 rcases qE d.Lv M h.f x with⟨_,hn⟩|⟨k,t,m,g1,g2,g3,g4,g5⟩
 ·exact absurd (List.mem_map.2 ⟨_,ho,h3⟩) hn
 ·have:=mj M h.n g3 ho (g5.trans h3.symm)
  subst this;exact⟨o,k,t,by rw[h1,Lk,h2],h3,ho,hm,g1,g2,g4⟩
theorem i8.notObj(h:i8 c d M)(x:Ls)(hx:ah (c.Lx.map aH.name) x<0):ah (d.Lv.map ap.name) x<0\/∃(k:Nat) (t:ap),ah (d.Lv.map ap.name) x=k/\d.Lv[k]?=some t/\t.sort≠0:=by
 rcases qE d.Lv M h.f x with⟨hn,_⟩|⟨k,t,m,g1,g2,g3,g4,g5⟩
 ·exact Or.inl hn
 ·refine Or.inr ⟨k,t,g1,g2,?_⟩
  cases m with
  |o o=>
   have:=(wV M h.n o g3).1;rw[<-h.o,show o.name=x from g5]at this;exact absurd hx this
  |i z=>rw[g4.1];exact Nat.one_ne_zero
  |u z=>rw[show t=_ from g4];exact Nat.succ_ne_zero 1
theorem IN(M:List PD)(hn:(M.map PD.name).Nodup)(y:bB)(hm:PD.u y∈M)(n:Ls):mg (M.filterMap PD.isU) y.name n=ba n y.LB:=by
 unfold mg;have h0:=(iT _ _).2 ((qj M y.name).2 ⟨y,hm,rfl⟩);rw[K8 h0];obtain⟨k,a,h1,h2,h3,_⟩:=j3 bB.name (M.filterMap PD.isU) y.name h0;rw[h1,Lk,h2];obtain⟨m,hm2,hq⟩:=List.mem_filterMap.1 (KN h2);cases m with
 |u z=>
  simp[PD.isU]at hq;subst hq;have:=mj M hn hm hm2 h3.symm;cases this;rfl
 |o z=>cases hq
 |i z=>cases hq
theorem AY(M:List PD)(hn:(M.map PD.name).Nodup)(m:PD)(hm:m∈M)(hu:∀z,m≠.u z)(n:Ls):mg (M.filterMap PD.isU) m.name n=false:=by
 unfold mg;rw[K9];refine Classical.byContradiction fun h=>?_;obtain⟨z,h1,h2⟩:=(qj M _).1 ((iT _ _).1 h);exact hu z (mj M hn hm h1 h2.symm)
theorem i8.of(h:i8 c d M)(hI:∀o∈c.Lx,∀a∈o.LE,dF M a=3){o:aH}{k k':Nat}{t t':ap}{m:PD}(ho:PD.o o∈M)(hoc:o∈c.Lx)(e1:ah (d.Lv.map ap.name) o.name=k)(_e2:d.Lv[k]?=some t)(e3:fG t (.o o))(hm:m∈M)(e4:ah (d.Lv.map ap.name) m.name=k')(_e5:d.Lv[k']?=some t')(e6:fG t' m):
 om o c.uns m.name=l9 t t' k k':=by
 have hk:=uo M h.n m hm (h.s m hm);have himp:m.kind≠3->ba m.name o.LE=false:=fun hne=>by
  rw[Bool.eq_false_iff];intro hb;have:=hI o hoc _ ((ii _ _).1 hb);rw[hk]at this;exact hne this
 have hname:∀z:PD,m=z->(∀q,z≠.o q)->decide (o.name=m.name)=false:=fun z hz hq=>by
  rw[decide_eq_false_iff_not];intro e;exact hq o (hz▸(mj M h.n ho hm e).symm)
 unfold om l9;rw[bY,h.u];cases m with
 |o o'=>
  rw[AY M h.n _ hm (fun z e=>by cases e) o.name,himp (show(2:Nat)≠3 by decide),e6.1];simp only[Nat.zero_ne_one,if_false,Bool.or_false];rw[K8 (by decide)];by_cases q:o.name=o'.name
  ·have:k=k':=by
    have e:=e1;rw[q]at e;have:=e.symm.trans e4;omega
   simp[PD.name,q,this]
  ·have:k≠k':=fun e=>by
    obtain⟨j1,a1,p1,p2,p3,_⟩:=j3 ap.name d.Lv o.name (by omega);obtain⟨j2,a2,q1,q2,q3,_⟩:=j3 ap.name d.Lv o'.name (by have:ah (d.Lv.map ap.name) o'.name=k':=e4;omega);have w1:j1=k:=by omega
    have w2:j2=k':=by have:ah (d.Lv.map ap.name) o'.name=k':=e4;omega
    rw[w1]at p2;rw[w2,<-e,p2]at q2;cases q2;exact q (p3.symm.trans q3)
   simp[PD.name,q,this]
 |i z=>
  rw[AY M h.n _ hm (fun z e=>by cases e) o.name,hname _ rfl (fun q e=>by cases e),e6.1,e3.2.2.2.1];simp[PD.name]
 |u z=>
  rw[hname _ rfl (fun q e=>by cases e),himp (show(4:Nat)≠3 by decide),show mg (M.filterMap PD.isU) (PD.u z).name o.name=_ from IN M h.n z hm o.name,show t'=_ from e6,e3.2.1];simp
end
section
variable {c:b9} {d:eG} {M:List PD}
theorem Je(h:i8 c d M)(hI:∀o∈c.Lx,∀a∈o.LE,dF M a=3)(ys:List bo)(hys:∀y∈ys,0<=ah (c.Lx.map aH.name) y.1)(n id:Ls)(hn:n∈M.map PD.name):
 gK c.Lx (c.ifs.map bC.name) (c.uns.map bB.name) c.uns (ys.map (qz (c.Lx.map aH.name))) n id=fH d.Lv (ys.map (bO d.Lv)) n id:=by
 obtain⟨m0,hm0,hmn⟩:=List.mem_map.1 hn;have hk:=uo M h.n m0 hm0 (h.s m0 hm0);rw[hmn]at hk;rcases qE d.Lv M h.f n with⟨_,q⟩|⟨k',t',m,g1,g2,g3,g4,g5⟩
 ·exact absurd hn q
 unfold gK fH;rw[h.kind,hk,K8 (by cases m0<;>simp[PD.kind])];have i1:(ys.map (qz (c.Lx.map aH.name))).map bD.id=ys.map (fun y=>y.2.1):=by rw[List.map_map];rfl
 have i2:(ys.map (bO d.Lv)).map cy.id=ys.map (fun y=>y.2.1):=by rw[List.map_map];rfl
 rw[i1,i2];split
 ·rfl
 ·rw[La,La]
  rcases hj:ys[(ah (ys.map (fun y=>y.2.1)) id).toNat]? with _|y<;>rw[hj]
  ·rfl
  ·obtain⟨o,k,t,e1,e2,e3,e4,e5,e6,e7⟩:=h.obj y.1 (hys y (KN hj))
   simp only[Option.map_some];have hd:(bO d.Lv y).d=k:=by show(ah (d.Lv.map ap.name) y.1).toNat=k;rw[e5];rfl
   have hq:(qz (c.Lx.map aH.name) y).k=(ah (c.Lx.map aH.name) y.1).toNat:=rfl;rw[hq,e1,hd,e6,g1,Lk,g2];simp only;rw[bV,e7.2.1,<-g5];have:=h.of hI e3 e4 (by rw[e2];exact e5) e6 e7 g3 (by rw[g5];exact g1) g2 g4;rw[this];rfl
def oM(c:b9)(y:bo):Bool:=match c.Lx[(ah (c.Lx.map aH.name) y.1).toNat]? with
 |some o=>ly (o.fields.map dg) [] y.2.2
 |none=>false
theorem Jt(h:i8 c d M)(y:bo):il d.Lv y=(decide (0<=ah (c.Lx.map aH.name) y.1)&&(nt y.1 y.2.1&&oM c y)):=by
 by_cases hx:0<=ah (c.Lx.map aH.name) y.1
 ·obtain⟨o,k,t,e1,e2,e3,e4,e5,e6,e7⟩:=h.obj y.1 hx
  rw[uS e5 e6,e7.1,e7.2.2.1];unfold oM;rw[e1];simp[hx]
 ·rw[KT hx,Bool.false_and]
  rcases h.notObj y.1 (by omega)with e|⟨k,t,e1,e2,e3⟩
  ·exact yB e
  ·rw[uS e1 e2,KT e3,Bool.false_and]
theorem zz(h:i8 c d M):∀(ys:List bo) (acc:List cy) (acc':List bD),acc.map cy.id=acc'.map bD.id->lz d.Lv acc ys=(ke (c.Lx.map aH.name) acc' ys&&ys.all (oM c))
 |[],_,_,_=>rfl
 |y::ys,acc,acc',he=>by
  rw[lz,ke,List.all_cons,zz h ys _ (acc'++[qz (c.Lx.map aH.name) y]) (by rw[Lr,Lr,he];rfl),Jt h,he];unfold nH;generalize decide (0<=ah (c.Lx.map aH.name) y.1)=a;generalize nt y.1 y.2.1=b;generalize oM c y=e;generalize decide (ah (acc'.map bD.id) y.2.1<0)=f;generalize ke _ _ ys=g;generalize ys.all (oM c)=i;cases a<;>cases b<;>cases e<;>cases f<;>cases g<;>cases i<;>rfl
def xg(R:Ls->Ls->Bool)(LS:List ax)(x:dd):Bool:=match LS[(ah (LS.map ax.name) x.1).toNat]? with
 |some f=>eD R f.ty (du x.2)
 |none=>false
theorem CP(R:Ls->Ls->Bool)(LS:List ax):∀(cs:List dd) (ns:List Ls),nW R LS ns cs=(ly (LS.map dg) ns cs&&cs.all (xg R LS))
 |[],_=>rfl
 |x::cs,ns=>by
  rw[nW,ly,List.all_cons,CP R LS cs];have e:(LS.map dg).map bj.name=LS.map ax.name:=by rw[List.map_map];rfl
  have hm:decide (ah ns x.1<0)=!ba x.1 ns:=by
   rw[Bool.eq_iff_iff,Lc,Bool.not_eq_true',Bool.eq_false_iff,ne_eq,ii,<-iT];exact Classical.not_not.symm
  unfold nT ql xy xg;rw[e,La,hm];cases LS[(ah (LS.map ax.name) x.1).toNat]? with
  |none=>simp
  |some f=>
   simp only[Option.map_some];rw[show(dg f).arg=f.arg from rfl];generalize decide (0<=ah (LS.map ax.name) x.1)=a;generalize decide (f.arg=ik)=b;generalize ba x.1 ns=g;generalize jV x.2=i;generalize eD R f.ty (du x.2)=j;generalize ly (LS.map dg) (ns++[x.1]) cs=k;generalize cs.all _=l;cases a<;>cases b<;>cases g<;>cases i<;>cases j<;>cases k<;>cases l<;>rfl
theorem zO(h:i8 c d M)(R:Ls->Ls->Bool)(L:List cy)(hf:∀o∈c.Lx,∀f∈o.fields,∀r,kA 1603 r->eD R f.ty r=fk (fH d.Lv L) f.ty r)(y:bo)(hx:0<=ah (c.Lx.map aH.name) y.1):
 kZ R c.Lx y=(oM c y&&fitRow d.Lv L (bO d.Lv y)):=by
 obtain⟨o,k,t,e1,e2,e3,e4,e5,e6,e7⟩:=h.obj y.1 hx;have hd:(bO d.Lv y).d=k:=by show(ah (d.Lv.map ap.name) y.1).toNat=k;rw[e5];rfl
 unfold kZ oM fitRow;rw[e1,hd,e6];simp only;rw[CP];congr 1;have hz:(bO d.Lv y).names.zip (bO d.Lv y).vals=y.2.2.map (fun c=>(c.1,du c.2)):=by
  show(y.2.2.map (·.1)).zip (y.2.2.map (fun c=>du c.2))=_;generalize y.2.2=l
  induction l with
  |nil=>rfl
  |cons a l ih=>rw[List.map_cons,List.map_cons,List.map_cons,List.zip_cons_cons,ih]
 rw[hz,List.all_map];congr 1;funext x;have e:(o.fields.map dg).map bj.name=o.fields.map ax.name:=by rw[List.map_map];rfl
 unfold xg;simp only[Function.comp];unfold MZ;rw[e7.2.2.1,e,La];rcases hj:o.fields[(ah (o.fields.map ax.name) x.1).toNat]? with _|f
 ·rfl
 ·have hm:=KN hj
  simp only[Option.map_some];rw[show(dg f).ty=ci f.ty from rfl,Bp _ (e7.2.2.2.2.2.2 f hm).ty];exact hf o e4 f hm _ (zI x.2)
theorem E0(h:i8 c d M)(hI:∀o∈c.Lx,∀a∈o.LE,dF M a=3)(hT:∀o∈c.Lx,∀f∈o.fields,co (bN f.ty)=true\/bN f.ty∈M.map PD.name)(ys:List bo):kO c ys=storeOk d.Lv ys:=by
 unfold kO lT storeOk;congr 1;rw[zz h ys [] [] rfl];cases ha:ke (c.Lx.map aH.name) [] ys
 ·simp
 ·have hys:=r7 _ _ _ ha
  simp only[Bool.true_and];rw[List.all_map,<-A4];have hsc:∀n s,dF M n<=1->gK c.Lx (c.ifs.map bC.name) (c.uns.map bB.name) c.uns (ys.map (qz (c.Lx.map aH.name))) n s=false:=fun n s hn=>by
   unfold gK;rw[h.kind,K9 hn]
  have hf:∀o∈c.Lx,∀f∈o.fields,∀r,kA 1603 r->eD (gK c.Lx (c.ifs.map bC.name) (c.uns.map bB.name) c.uns (ys.map (qz (c.Lx.map aH.name)))) f.ty r=fk (fH d.Lv (ys.map (bO d.Lv))) f.ty r:=fun o ho f hfm r hr=>
   vB _ _ (fun n s hn=>hsc n s (by unfold dF aZ;rw[K9 hn];exact KK 1))
    (fun s=>hsc _ s (wt M _ (fun hm=>by
     obtain⟨m,hm1,hm2⟩:=List.mem_map.1 hm;have:=(h.w m hm1).1;rw[hm2]at this;exact absurd this (by decide))))
    f.ty (fun s hs=>Je h hI ys hys _ s ((hT o ho f hfm).resolve_left (by rw[hs];simp))) 1603 r hr
  rw[Bool.eq_iff_iff,Lh,Lh];constructor
  ·intro hh y hy;have:=hh y hy;rw[zO h _ _ hf y (hys y hy)]at this;exact this
  ·intro hh y hy;rw[zO h _ _ hf y (hys y hy)];exact hh y hy
end
def ng(v:Nat×Int×Ls):Prop:=v.1<=6/\(v.1=3->(v.2.1=0\/v.2.1=1)/\v.2.2=⟨#[]⟩)
theorem Bj{a b:Nat×Int×Ls}(ha:ng a)(hb:ng b):cW a=cW b↔a=b:=by
 refine⟨fun h=>?_,fun h=>by rw[h]⟩;obtain⟨k,n,s⟩:=a;obtain⟨k',n',s'⟩:=b;obtain⟨h1,h2⟩:=ha;obtain⟨g1,g2⟩:=hb;dsimp only at h1 h2 g1 g2;have q1:k=0\/k=1\/k=2\/k=3\/k=4\/k=5\/k=6:=by omega
 have q2:k'=0\/k'=1\/k'=2\/k'=3\/k'=4\/k'=5\/k'=6:=by omega
 rcases q1 with e|e|e|e|e|e|e<;>rcases q2 with e'|e'|e'|e'|e'|e'|e'<;>subst e<;>subst e'<;>simp[cW]at h⊢;all_goals first
  |exact h
  |(exfalso;revert h;split<;>simp;done)
  |skip
 obtain⟨p1,p2⟩:=h2 rfl;obtain⟨r1,r2⟩:=g2 rfl;rw[p2,r2];rcases p1 with e|e<;>rcases r1 with e'|e'<;>subst e<;>subst e'<;>simp at h⊢
theorem FU{a:Nat×Int×Ls}(ha:ng a):(cW a).1≠5:=by
 obtain⟨k,n,s⟩:=a;have h1:=ha.1;dsimp only at h1;have q1:k=0\/k=1\/k=2\/k=3\/k=4\/k=5\/k=6:=by omega
 rcases q1 with e|e|e|e|e|e|e<;>subst e<;>simp[cW];split<;>simp
theorem yO(s:St):ng ((br s).sh,(br s).n,(br s).s):=by
 unfold br;repeat' split
 all_goals(refine⟨by simp[jE],fun h=>?_⟩;first|(simp[jE]at h;done)|simp)
theorem Ik(x:Ls):ng (nS (du x)):=by
 unfold du;rw[bz];split
 ·exact yO _
 ·split
  ·exact⟨by show 6<=6;decide,fun h=>by simp[nS]at h⟩
  ·split
   ·exact⟨by show 4<=6;decide,fun h=>by simp[nS]at h⟩
   ·exact⟨by show 5<=6;decide,fun h=>by simp[nS]at h⟩
theorem GM:ng (0,0,⟨#[]⟩):=⟨by decide,fun h=>by simp at h⟩
theorem Iq(r:RV):rE (pv r)=cW (nS r):=by
 obtain⟨sh,n,s,l⟩:=r;rw[xD];rfl
theorem BF(x:Ls):∀(l:List dd) (n:Nat),(dK (l.map Prod.fst) x n= -1/\kE (l.map (·.1)) (l.map (fun c=>du c.2)) x=(0,0,⟨#[]⟩))\/∃(k:Nat) (c:dd),dK (l.map Prod.fst) x n=((n+k:Nat):Int)/\l[k]?=some c/\kE (l.map (·.1)) (l.map (fun c=>du c.2)) x=nS (du c.2)
 |[],n=>Or.inl ⟨rfl,by simp[kE]⟩
 |c::l,n=>by
  rw[List.map_cons,dK,List.map_cons,kE];by_cases e:c.1=x
  ·rw[K9 e,K9 e]
   exact Or.inr ⟨0,c,rfl,rfl,rfl⟩
  ·rw[K8 e,K8 e]
   rcases BF x l (n+1)with h|⟨k,c',h1,h2,h3⟩
   ·exact Or.inl h
   ·exact Or.inr ⟨k+1,c',by rw[h1];congr 1;omega,by simpa using h2,h3⟩
theorem GA(l:List dd)(x:Ls):rL l x=cW (kE (l.map (·.1)) (l.map (fun c=>du c.2)) x)/\ng (kE (l.map (·.1)) (l.map (fun c=>du c.2)) x):=by
 unfold rL ah;rcases BF x l 0 with⟨h1,h2⟩|⟨k,c,h1,h2,h3⟩
 ·rw[h1,h2,K9 (by decide)];exact⟨rfl,GM⟩
 ·rw[h1,h3,K8 (by omega)]
  refine⟨?_,Ik _⟩;rw[Lk,Nat.zero_add,h2];exact Iq _
mutual
def jI:aK->Prop
 | .all=>True
 | .is n=>n≠bE
 | .eq _ v=>∀y,v=some y->ng y
 | .not r=>jI r
 | .chain _ l=>ij l
def ij:List aK->Prop
 |[]=>True
 |t::l=>jI t/\ij l
end
theorem Gs(l:List dd)(id n:Ls)(v:Option (Nat×Int×Ls))(hv:∀y,v=some y->ng y):mP l id n v=decide (kE (l.map (·.1)) (l.map (fun c=>du c.2)) n=v.getD (2,0,id)):=by
 obtain⟨h1,h2⟩:=GA l n;unfold mP;rw[h1];cases v with
 |none=>
  show decide (_=iQ id 5 0 ⟨#[]⟩)=_;rw[show iQ id 5 0 ⟨#[]⟩=cW (2,0,id)from rfl];exact decide_eq_decide.2 (Bj h2 ⟨by show 2<=6;decide,fun h=>by simp at h⟩)
 |some y=>
  have hy:=hv y rfl;have:iQ id (iK (some y)).1 (iK (some y)).2.1 (iK (some y)).2.2=cW y:=by
   show iQ id (cW y).1 (cW y).2.1 (cW y).2.2=_;unfold iQ;rw[K8 (FU hy)]
  rw[this];exact decide_eq_decide.2 (Bj h2 hy)
mutual
theorem xz(hs:Ls->Bool)(l:List dd)(E:lH)(h1:∀n,n≠bE->hs n=E.has n)(h2:E.cell=kE (l.map (·.1)) (l.map (fun c=>du c.2))):∀(t:aK),jI t->iI hs (mP l E.id) t=cZ E t
 | .all,_=>by rw[iI,cZ]
 | .is n,h=>by rw[iI,cZ,h1 n (by rw[jI]at h;exact h)]
 | .eq n v,h=>by rw[iI,cZ,Gs l E.id n v (by rw[jI]at h;exact h),h2]
 | .not r,h=>by rw[jI]at h;rw[iI,cZ,xz hs l E h1 h2 r h]
 | .chain true r,h=>by rw[jI]at h;rw[iI,cZ,(wC hs l E h1 h2 r h).1]
 | .chain false r,h=>by rw[jI]at h;rw[iI,cZ,(wC hs l E h1 h2 r h).2]
theorem wC(hs:Ls->Bool)(l:List dd)(E:lH)(h1:∀n,n≠bE->hs n=E.has n)(h2:E.cell=kE (l.map (·.1)) (l.map (fun c=>du c.2))):∀(r:List aK),ij r->nY hs (mP l E.id) r=mK E r/\(!qG hs (mP l E.id) r)=mo E r
 |[],_=>by rw[nY,mK,qG,mo];exact⟨rfl,rfl⟩
 |t::r,h=>by
  rw[ij]at h;obtain⟨ih1,ih2⟩:=wC hs l E h1 h2 r h.2;rw[nY,mK,qG,mo,xz hs l E h1 h2 t h.1,ih1,<-ih2];exact⟨rfl,by simp⟩
end
theorem AI{word:Ls}{part:St->aK×St}{C:List Tk->aK->Prop}{n:Nat}(hp:∀l l',ln (some l)<=n->(part (some l)).2=some l'->∃e,l=e++l'/\C e (part (some l)).1):
 ∀(f:Nat) (acc:List aK) (l l':List Tk),ln (some l)<=n->(i6 word part f acc (some l)).2=some l'->∃e ts,(i6 word part f acc (some l)).1=acc++ts/\l=e++l'/\((e=[]/\ts=[])\/∃x e',e=x::e'/\dU x word/\iP word C e' ts)
 |0,acc,l,l',_,h=>by
  rw[i6]at h⊢;cases h;exact⟨[],[],by simp,rfl,Or.inl ⟨rfl,rfl⟩⟩
 |f+1,acc,l,l',hn,h=>by
  rw[i6]at h⊢;by_cases hw:aq (some l) word=true
  ·rw[K9 hw]at h⊢
   cases l with
   |nil=>simp[aq,hd,ib]at hw
   |cons x l1=>
    have hx:dU x word:=(m7 x l1 word).1 hw;have e0:tl (some (x::l1))=some l1:=rfl;rw[e0]at h⊢;rcases h2:(part (some l1)).2 with _|l2
    ·rw[h2,vx _ _ _ _ _ (ue word)]at h
     cases h
    ·rw[h2]at h
     have hln:ln (some l1)<=n:=by simp[ln]at hn⊢;omega
     obtain⟨e1,q1,q2⟩:=hp l1 l2 hln h2;have hln2:ln (some l2)<=n:=by rw[q1]at hln;simp[ln]at hln⊢;omega
     obtain⟨e2,ts,r1,r2,r3⟩:=AI hp f _ l2 l' hln2 h;refine⟨x::(e1++e2),(part (some l1)).1::ts,by rw[r1];simp,by rw[q1,r2];simp,Or.inr ⟨x,e1++e2,rfl,hx,?_⟩⟩;rcases r3 with⟨a,b⟩|⟨x2,e2',a,b,c⟩
     ·rw[a,b,List.append_nil];exact .one _ _ q2
     ·rw[a];exact .cons x2 e1 e2' _ ts b q2 c
  ·rw[K8 hw]at h⊢
   cases h;exact⟨[],[],by simp,rfl,Or.inl ⟨rfl,rfl⟩⟩
theorem Bz{o:Bool}{word:Ls}{part:St->aK×St}{C:List Tk->aK->Prop}{n:Nat}(hp:∀l l',ln (some l)<=n->(part (some l)).2=some l'->∃e,l=e++l'/\C e (part (some l)).1)(l l':List Tk)(hn:ln (some l)<=n)(h:(dQ o word part (some l)).2=some l'):
 ∃e ts,(dQ o word part (some l)).1=.chain o ts/\l=e++l'/\iP word C e ts:=by
 unfold dQ at h⊢;dsimp only at h⊢;rcases h2:(part (some l)).2 with _|l2
 ·rw[h2,vx _ _ _ _ _ (ue word)]at h
  cases h
 ·rw[h2]at h
  obtain⟨e1,q1,q2⟩:=hp l l2 hn h2;obtain⟨e2,ts,r1,r2,r3⟩:=AI hp 801 _ l2 l' (by rw[q1]at hn;simp[ln]at hn⊢;omega) h;refine⟨e1++e2,(part (some l)).1::ts,by rw[r1];rfl,by rw[q1,r2];simp,?_⟩;rcases r3 with⟨a,b⟩|⟨x2,e2',a,b,c⟩
  ·rw[a,b,List.append_nil];exact .one _ _ q2
  ·rw[a];exact .cons x2 e1 e2' _ ts b q2 c
theorem Iu{e:List Tk}{ts:List aK}(h:iP dy (fun e t=>dn 0 e [t]) e ts):dn 1 e ts:=by
 induction h with
 |one e t h=>exact .and1 e t h
 |cons x e e' t l hx h _ ih=>exact .and x e e' t l hx h ih
theorem Jr{e:List Tk}{ts:List aK}(h:iP dW (fun e t=>∃l,t=.chain false l/\dn 1 e l) e ts):dn 2 e ts:=by
 induction h with
 |one e t h=>obtain⟨l,rfl,h⟩:=h;exact .or1 e l h
 |cons x e e' t l hx h _ ih=>obtain⟨k,rfl,h⟩:=h;exact .or x e e' k l hx h ih
theorem AH{f n:Nat}(hu:∀l l',ln (some l)<=n->(eN f (some l)).2=some l'->∃e,l=e++l'/\dn 0 e [(eN f (some l)).1])(l l':List Tk)(hn:ln (some l)<=n)(h:(oq f (some l)).2=some l'):
 ∃e ts,(oq f (some l)).1=.chain true ts/\l=e++l'/\dn 2 e ts:=by
 have h1:∀l l',ln (some l)<=n->(dQ false jy (eN f) (some l)).2=some l'->∃e,l=e++l'/\∃k,(dQ false jy (eN f) (some l)).1=.chain false k/\dn 1 e k:=fun l l' hn h=>by
  obtain⟨e,ts,q1,q2,q3⟩:=Bz (C:=fun e t=>dn 0 e [t]) hu l l' hn h;exact⟨e,q2,ts,q1,Iu q3⟩
 obtain⟨e,ts,q1,q2,q3⟩:=Bz (o:=true) (word:=j0) (C:=fun e t=>∃k,t=.chain false k/\dn 1 e k) h1 l l' hn h;exact⟨e,ts,q1,q2,Jr q3⟩
theorem tY{l:List Tk}{k:Nat}(hk:k≠0)(h:af (some l) k=true):∃x l1,l=x::l1/\x.k=k:=by
 cases l with
 |nil=>simp[af,hd,ib]at h;omega
 |cons x l1=>exact⟨x,l1,rfl,by simpa [af,hd]using h⟩
theorem Bb{l l':List Tk}(h:ab (some l)=some l'):∃x,l=x::l'/\x.k=1/\nm (some l)=x.s:=by
 unfold ab at h;by_cases hk:af (some l) 1=true
 ·rw[K9 hk]at h
  obtain⟨x,l1,rfl,hx⟩:=tY (by decide) hk;cases h;exact⟨x,rfl,hx,by unfold nm;rw[K9 hk];rfl⟩
 ·rw[K8 hk]at h;cases h
theorem Bn{s:St}{k:Nat}{l':List Tk}(hk:k≠0)(h:ak s (af s k)=some l'):∃x,s=some (x::l')/\x.k=k:=by
 unfold ak at h;split at h
 ·rename_i hb
  cases s with
  |none=>simp[af,hd,ib]at hb;omega
  |some l=>
   obtain⟨x,l1,rfl,hx⟩:=tY hk hb;cases h;exact⟨x,rfl,hx⟩
 ·cases h
theorem Dm{l l':List Tk}(h:iZ (some l)=some l'):∃u,l=u::l'/\((dU u eV/\nV (some l)=none)\/(¬dU u eV/\dN (some [u])=true/\nV (some l)=some (od u))):=by
 cases l with
 |nil=>simp[iZ,iH,aq,hd,ib]at h
 |cons u l1=>
  have hW:=m7 u l1 eV;unfold iZ at h;unfold nV;by_cases hv:dU u eV
  ·rw[K9 (hW.2 hv)]at h⊢
   cases h;exact⟨u,rfl,Or.inl ⟨hv,rfl⟩⟩
  ·rw[K8 (fun e=>hv (hW.1 e))]at h⊢
   unfold iH at h;have hh:hd (some (u::l1))=u:=rfl;rw[hh]at h;have key:l1=l'/\dN (some [u])=true/\tn (some (u::l1))=od u:=by
    unfold tn od br;rw[hh,show hd (some [u])=u from rfl,xR,show hd (some [u])=u from rfl];by_cases h2:u.k=2
    ·rw[K9 h2]at h;cases h;simp[h2,rk]
    ·by_cases h3:u.k=3
     ·rw[K8 h2,K9 h3]at h;cases h;simp[h3,rk,rs]
     ·by_cases h1:u.k=1
      ·rw[K8 h2,K8 h3,K9 h1]at h
       unfold lm at h;have hr:rs u=u.s:=by unfold rs;rw[K9 (by omega)]
       rw[hr,bV,bV,bV];have b1:aE [116,114,117,101]=jr:=rfl;have b2:aE [102,97,108,115,101]=jw:=rfl;have b3:aE [110,117,108,108]=mf:=rfl;rw[b1,b2,b3];have n12:jw≠jr:=by decide
       have n13:mf≠jr:=by decide
       have n23:mf≠jw:=by decide
       by_cases t1:u.s=jr
       ·rw[K9 t1]at h;cases h;simp[h1,t1,rk]
       ·by_cases t2:u.s=jw
        ·rw[K8 t1,K9 t2]at h;cases h;simp[h1,t2,rk,n12]
        ·by_cases t3:u.s=mf
         ·rw[K8 t1,K8 t2,K9 t3]at h;cases h;simp[h1,t3,rk,n13,n23,jE]
         ·rw[K8 t1,K8 t2,K8 t3]at h;cases h
      ·rw[K8 h2,K8 h3,K8 h1]at h;cases h
   obtain⟨k1,k2,k3⟩:=key;exact⟨u,by rw[k1],Or.inr ⟨hv,k2,by rw[k3]⟩⟩
theorem sW{l:List Tk}{y:Ls}(hy:y≠⟨#[]⟩)(h:nm (some l)=y):∃x l1,l=x::l1/\dU x y/\ab (some l)=some l1:=by
 by_cases hk:af (some l) 1=true
 ·obtain⟨x,l1,rfl,hx⟩:=tY (by decide) hk
  unfold nm at h;rw[K9 hk]at h;exact⟨x,l1,rfl,⟨hx,h⟩,by unfold ab;rw[K9 hk];rfl⟩
 ·unfold nm at h
  rw[K8 hk]at h;exact absurd h.symm hy
theorem uH:∀(f:Nat) (l l':List Tk),ln (some l)<=f->(eN f (some l)).2=some l'->∃e,l=e++l'/\dn 0 e [(eN f (some l)).1]
 |0,l,l',hn,_=>by simp[ln]at hn
 |f+1,l,l',hn,h=>by
  have hn1:l.length<=f:=by simpa [ln]using hn
  rw[tf]at h⊢;by_cases h7:af (some l) 7=true
  ·rw[K9 h7]at h⊢
   obtain⟨x,l1,rfl,hx⟩:=tY (by decide) h7;obtain⟨z,hz,hz8⟩:=Bn (by decide) h;obtain⟨e,ts,q1,q2,q3⟩:=AH (f:=f) (n:=f) (uH f) l1 (z::l') (by simpa [ln]using hn1) hz;refine⟨x::(e++[z]),by rw[q2];simp,?_⟩;rw[show(dQ true j0 (dQ false jy (eN f)) (tl (some (x::l1)))).1=.chain true ts from q1];exact .par x z e ts hx hz8 q3
  ·rw[K8 h7]at h⊢
   by_cases e1:nm (some l)=dc
   ·rw[K9 e1]at h⊢
    obtain⟨x,l1,rfl,hx,ht⟩:=sW (by decide) e1;rw[ht]at h⊢;obtain⟨e,q1,q2⟩:=uH f l1 l' (by simpa [ln]using hn1) h;exact⟨x::e,by rw[q1];rfl,.not x e _ hx q2⟩
   ·rw[K8 e1]at h⊢
    by_cases e2:nm (some l)=dX
    ·rw[K9 e2]at h⊢
     obtain⟨x,l1,rfl,hx,ht⟩:=sW (by decide) e2;rw[show ab (some (x::l1))=some l' from h]at ht;cases ht;exact⟨[x],rfl,.all x hx⟩
    ·rw[K8 e2]at h⊢
     by_cases e3:nm (some l)=cm
     ·rw[K9 e3]at h⊢
      obtain⟨x,l1,rfl,hx,ht⟩:=sW (by decide) e3;rw[ht]at h⊢;obtain⟨y,rfl,hy,hny⟩:=Bb h;refine⟨[x,y],rfl,?_⟩;dsimp only;rw[hny];exact .is x y hx hy
     ·rw[K8 e3]at h⊢
      dsimp only at h⊢;rcases hm:ak (ab (some l)) (af (ab (some l)) 10)with _|l3
      ·rw[hm]at h;cases h
      ·rw[hm]at h
       obtain⟨z,hz,hz10⟩:=Bn (by decide) hm;obtain⟨x,rfl,hx,hnx⟩:=Bb hz;obtain⟨u,rfl,hu⟩:=Dm h;rw[hnx]at e1 e2 e3⊢;refine⟨[x,z,u],rfl,?_⟩;rcases hu with⟨u1,u2⟩|⟨u1,u2,u3⟩
       ·rw[u2];exact .eqv x z u hx e1 e2 e3 hz10 u1
       ·rw[u3];exact .eql x z u hx e1 e2 e3 hz10 u1 u2
theorem OD:∀(l:List aK),ij l↔∀t∈l,jI t
 |[]=>by rw[ij];simp
 |t::l=>by rw[ij,OD l];simp
theorem dn.ok{k:Nat}{e:List Tk}{l:List aK}(h:dn k e l):(∀t∈e,io t)->ij l:=by
 induction h with
 |not x e t _ _ ih=>intro h;have:=ih (fun t ht=>h t (List.mem_cons_of_mem _ ht));rw[ij,ij,jI]at*;exact⟨this.1,trivial⟩
 |all x _=>intro _;rw[ij,ij,jI];exact⟨trivial,trivial⟩
 |is x y _ hy=>
  intro h;rw[ij,ij,jI];refine⟨fun e=>?_,trivial⟩;have:=(h y (by simp)).2.2.2 hy;rw[e]at this;exact absurd this (by decide)
 |par x z e l _ _ _ ih=>intro h;rw[ij,ij,jI];exact⟨ih (fun t ht=>h t (by simp[ht])),trivial⟩
 |eqv x z u _ _ _ _ _ _=>intro _;rw[ij,ij,jI];exact⟨fun y hy=>absurd hy (by simp),trivial⟩
 |eql x z u _ _ _ _ _ _ _=>intro _;rw[ij,ij,jI];exact⟨fun y hy=>KY hy▸yO _,trivial⟩
 |and1 e t _ ih=>exact ih
 |and x e e' t l _ _ _ ih1 ih2=>
  intro h;have a:=ih1 (fun t ht=>h t (by simp[ht]));have b:=ih2 (fun t ht=>h t (by simp[ht]));rw[ij]at a⊢;exact⟨a.1,b⟩
 |or1 e l _ ih=>intro h;rw[ij,ij,jI];exact⟨ih h,trivial⟩
 |or x e e' l l' _ _ _ ih1 ih2=>
  intro h;rw[ij,jI];exact⟨ih1 (fun t ht=>h t (by simp[ht])),ih2 (fun t ht=>h t (by simp[ht]))⟩
theorem GW(e l:List Tk):iy (some (e++l)) (some l)=e:=by
 unfold iy;simp
theorem DW(s:St)(hl:ln s<=801)(h:(ey s).2≠none)(hk:af s 11=true):∃ts,rO s=.chain true ts/\dn 2 (jo s).1 ts:=by
 unfold ey at h;unfold rO jo;simp only[hk,if_true]at h⊢;have hl2:ln (ed (tl s))<=801:=KP (cg _ _) (KP (cg _ _) (KP (cK _) hl));have hst:=sF (ed (tl s)) 802 (by decide) hl2;show∃ts,_/\dn 2 (iy (ed (tl s)) (ja (ed (tl s)))) ts;generalize ed (tl s)=s5 at h hl2 hst⊢;rw[<-hst];cases hp:(j4 802 s5).2 with
 |none=>rw[hp,j8]at h;exact absurd rfl h
 |some l'=>
  cases s5 with
  |none=>
   rw[hp]at hst;have e:ja none=none:=rh 801;rw[e]at hst;cases hst
  |some l=>
   have ht:(oq 802 (some l)).2=some l':=by rw[(yd 802 (some l)).2];exact hp
   obtain⟨e,ts,q1,q2,q3⟩:=AH (f:=802) (n:=802) (uH 802) l l' (by omega) ht;refine⟨ts,q1,?_⟩;rw[q2,GW];exact q3
def TR(c:b9)(d:eG):Prop:=∀x∈c.Lx,∃t∈d.Lv,t.name=x.name/\(x.Lw.isSome=true->∃ts,x.tree=.chain true ts/\dn 2 t.Lw ts)
theorem TR.keep{c c':b9}{d d':eG}(h:TR c d)(h1:c'.Lx=c.Lx)(h2:∀t∈d.Lv,t∈d'.Lv):TR c' d':=fun x hx=>by
 rw[h1]at hx;obtain⟨t,a,b⟩:=h x hx;exact⟨t,h2 t a,b⟩
theorem zD(c:b9)(d:eG)(s:St)(hl:ln s<=801)(h:TR c d)(hs:(bX c s).2≠none):TR (bX c s).1 (eB d s).1:=by
 have h1:ln (ab s)<=801:=KP (bH s) hl;have h2:ln (ab (ab s))<=801:=KP (bH _) h1;unfold bX at hs⊢;unfold eB;by_cases e1:nm s=oe
 ·rw[K9 e1]at hs⊢
  rw[K9 e1];exact h.keep rfl (fun t ht=>ht)
 ·rw[K8 e1]at hs⊢
  rw[K8 e1];by_cases e2:nm s=oG
  ·rw[K9 e2]at hs⊢
   rw[K9 e2];dsimp only at hs⊢;have hag:=(ug _ h1).2 hs;have hpo:(cn (ab s)).2=(dC (ey (dH (ab (ab s))).2).2).2:=by unfold cn;dsimp only
   rw[hpo]at hs;have hpr:(ey (dH (ab (ab s))).2).2≠none:=nw (oz _) hs;intro x hx;rcases List.mem_append.1 hx with hx|hx
   ·obtain⟨t,a,b⟩:=h x hx
    exact⟨t,by simp[a],b⟩
   ·rw[List.mem_singleton]at hx
    subst hx;refine⟨(fY (ab s)).1,by simp,by rw[hag],fun hr=>?_⟩;have hk:af (dH (ab (ab s))).2 11=true:=by
     rw[<-Ax];unfold cn at hr;exact hr
    have:=DW _ (KP (qN _) h2) hpr hk;rw[hag];unfold cn;exact this
  ·rw[K8 e2]at hs⊢
   rw[K8 e2];by_cases e3:nm s=pF
   ·rw[K9 e3]at hs⊢
    rw[K9 e3];exact h.keep rfl (fun t ht=>by simp[ht])
   ·rw[K8 e3]at hs⊢
    rw[K8 e3];by_cases e4:nm s=pA
    ·rw[K9 e4]at hs⊢
     rw[K9 e4];exact h.keep rfl (fun t ht=>by simp[ht])
    ·rw[K8 e4]at hs
     exact absurd rfl hs
theorem yx:∀(f:Nat) (c:b9) (d:eG) (s:St),ln s<=801->(s≠none->TR c d)->(gH f c s).2≠none->TR (gH f c s).1 (gv f d s).1
 |0,c,d,s,_,h,hs=>h hs
 |f+1,c,d,s,hl,h,hs=>by
  rw[gH]at hs⊢;rw[gv];by_cases ha:eu s=true
  ·rw[K9 ha]at hs⊢;rw[K9 ha]
   exact h hs
  ·rw[K8 ha]at hs⊢;rw[K8 ha]
   have h0:s≠none:=by intro e;rw[e]at ha;exact ha rfl
   rw[pR d c s hl];exact yx f _ _ _ (KP (oF c s) (KP (bH s) hl)) (fun hn=>zD c d s hl (h h0) hn) hs
theorem tu{x:Ls}(h:iw x=0):jW (cc (av x)).2=true:=by
 unfold iw at h;split at h
 ·assumption
 ·cases h
theorem A3(x:Ls)(h:jW (cc (av x)).2=true):TR (cc (av x)).1 (cE (av x)).1:=by
 have hl:=ph x;generalize av x=s at h hl;have hn:(cc s).2≠none:=fun e=>by rw[e]at h;simp[jW]at h
 by_cases ha:eu s=true
 ·exfalso
  refine hn ?_;unfold cc;have hd:bX d8 s=(d8,none):=by
   have hn:nm s=⟨#[]⟩:=by
    apply xI
    match s,ha with
    |none,_=>rfl
    |some [],_=>rfl
   unfold bX;rw[hn,K8 (by decide),K8 (by decide),K8 (by decide),K8 (by decide)]
  rw[hd];dsimp only;rw[y8]
 ·have e:cE s=gv 801 (eB iz s).1 (eB iz s).2:=by
   unfold cE;have e:o7 s=s:=by
    match s,ha with
    |none,ha=>rfl
    |some [],ha=>exact absurd rfl ha
    |some (t::l),_=>rfl
   rw[e,gv,K8 ha]
  rw[e,pR iz d8 s hl];unfold cc at hn⊢;exact yx 801 _ _ _ (KP (oF d8 s) (KP (bH s) hl)) (fun hn=>zD d8 iz s hl (fun x hx=>by simp[d8]at hx) hn) hn
def nI(c:b9)(d:eG)(k:Nat):List aK:=match d.Lv[k]? with
 |none=>[]
 |some t=>match c.Lx[(ah (c.Lx.map aH.name) t.name).toNat]? with
  |none=>[]
  |some o=>match o.tree with
   | .chain true l=>l
   |_=>[]
theorem F2.names{Lv:List ap}{M:List PD}(h:F2 fG Lv M):Lv.map ap.name=M.map PD.name:=by
 induction h with
 |nil=>rfl
 | @cons a b l m hr _ ih=>
   rw[List.map_cons,List.map_cons,ih];congr 1;cases b with
   |o x=>exact hr.2.1
   |i x=>rw[hr.1];rfl
   |u x=>rw[show a=_ from hr];rfl
theorem Jf{Lv:List ap}(h:(Lv.map ap.name).Nodup){a b:ap}(ha:a∈Lv)(hb:b∈Lv)(e:a.name=b.name):a=b:=by
 obtain⟨i,hi,ei⟩:=List.getElem_of_mem ha;obtain⟨j,hj,ej⟩:=List.getElem_of_mem hb;have h1:(Lv.map ap.name)[i]?=some a.name:=by rw[La,KM hi,ei];rfl
 have h2:(Lv.map ap.name)[j]?=some a.name:=by rw[La,KM hj,ej,e];rfl
 have:=(o6 _ _ _ h h1).symm.trans (o6 _ _ _ h h2);have:i=j:=by omega
 subst this;rw[<-ei,<-ej]
section
variable {c:b9} {d:eG} {M:List PD}
theorem AQ(h:i8 c d M)(ht:TR c d){o:aH}{k:Nat}{t:ap}(h1:c.Lx[(ah (c.Lx.map aH.name) o.name).toNat]?=some o)(hk:d.Lv[k]?=some t)(hr:fG t (.o o))(hs:o.Lw.isSome=true):o.tree=.chain true (nI c d k)/\dn 2 t.Lw (nI c d k):=by
 obtain⟨t',q1,q2,q3⟩:=ht o (KN h1);have hn:(d.Lv.map ap.name).Nodup:=by rw[h.f.names];exact h.n
 have:=Jf hn q1 (KN hk) (q2.trans hr.2.1.symm);subst this;obtain⟨ts,g1,g2⟩:=q3 hs;have e:nI c d k=ts:=by unfold nI;rw[hk];simp only;rw[q2,h1];simp only;rw[g1]
 rw[e];exact⟨g1,g2⟩
theorem G2(h:i8 c d M)(ht:TR c d)(hok:rX c.Lu)(NG:∀t∈d.Lv,mx t){LK vid:Ls}(hr:¬ah (c.Lu.map aj.name) LK<0)(y:bo)(hy:0<=ah (c.Lx.map aH.name) y.1):
 lO c.Lx vid (fW c.Lu LK) y=oh c.Lu d.Lv (nI c d) LK vid y:=by
 obtain⟨o,k,t,e1,e2,e3,e4,e5,e6,e7⟩:=h.obj y.1 hy;have hd:(bO d.Lv y).d=k:=by show(ah (d.Lv.map ap.name) y.1).toNat=k;rw[e5];rfl
 unfold lO oh;rw[e1,hd,e6];simp only;have hf:(fun c':dd=>o9 (fW c.Lu LK) o.fields c'.1)=fun c'=>mN c.Lu LK t.fields c'.1:=by
  funext x;rw[Iy hok hr,e7.2.2.1]
 rw[hf,e2];have hh:(o.Lw.isSome&&!iI (fun n=>ba n (fW c.Lu LK)) (mP y.2.2 vid) o.tree)=pE t.LC (pB c.Lu LK vid (bO d.Lv y)) (nI c d k):=by
  unfold pE;rw[e7.2.2.2.2.1];cases hs:o.Lw.isSome
  ·rfl
  ·obtain⟨g1,g2⟩:=AQ h ht (by rw[e2];exact e1) e6 e7 hs
   rw[g1];have:=xz (fun n=>ba n (fW c.Lu LK)) y.2.2 (pB c.Lu LK vid (bO d.Lv y)) (fun n hn=>by
    show ba n (fW c.Lu LK)=ic c.Lu LK n;unfold ic;rw[BQ hok hr,KT hn,Bool.false_or]) rfl (.chain true (nI c d k)) (by
    rw[jI];exact g2.ok (NG t (KN e6)).tok)
   rw[<-this];rfl
 rw[hh]
end
theorem zM{c:b9}{M:List PD}{d:eG}(h:i8 c d M)(hr:jz c=true):(∀o∈c.Lx,∀a∈o.LE,dF M a=3)/\∀o∈c.Lx,∀f∈o.fields,co (bN f.ty)=true\/bN f.ty∈M.map PD.name:=by
 unfold jz at hr;simp only[Li]at hr;have ho:=hr.2.2.1;rw[Lh]at ho;have hk:oa c=dF M:=h.kind;refine⟨fun o hm a ha=>?_,fun o hm f hf=>?_⟩
 ·have:=ho o hm
  unfold jb m9 fw at this;simp only[Li,Lh,Lc]at this;rw[<-hk];exact this.2.1.1.2 a ha
 ·have:=ho o hm
  unfold jb fu jM at this;simp only[Li,Lh,Lc]at this;have h1:=(this.1.1 f hf).2.1;rw[hk]at h1;by_cases hs:co (bN f.ty)=true
  ·exact Or.inl hs
  ·refine Or.inr (Classical.byContradiction fun hn=>?_)
   have:=xt M (bN f.ty);rw[Le h1]at this;simp only[Bool.not_eq_true]at hs;rw[hs,Bool.false_or]at this;exact hn ((jK _ _).1 this.symm)
theorem x9{α β:Type}{f g:α->Option β}:∀(l:List α),(∀a∈l,f a=g a)->l.filterMap f=l.filterMap g
 |[],_=>rfl
 |a::l,h=>by rw[List.filterMap_cons,List.filterMap_cons,h a List.mem_cons_self,x9 l (fun b hb=>h b (List.mem_cons_of_mem _ hb))]
theorem Dv(x:Ls)(ys:List bo)(LK vid:Ls):iO x ys LK vid=seesR (nI (cc (av x)).1 (cE (av x)).1) x ys LK vid:=by
 unfold iO seesR km;rw[CA x];by_cases h0:iw x=0
 ·obtain⟨M,h,hro⟩:=AV x h0
  have ht:=A3 x (tu h0);have hr:=ro x h0;obtain⟨hI,hT⟩:=zM h hr;have hok:=yz hr (xl _ (xB x));have NG:=vS x (by rw[(r8 (av x) (ph x) (p8 x)).1];exact tu h0);have hst:=E0 h hI hT ys;have q:¬(iw x≠0):=fun e=>e h0;rw[hro,K9 h0,K8 q,<-hst];cases hs:kO (cc (av x)).1 ys
  ·rfl
  ·have q2:¬(true=false):=by simp
   rw[K9 rfl,K9 rfl,K8 q2];by_cases hi:ah ((cc (av x)).1.Lu.map aj.name) LK<0
   ·rw[K9 (Bf.2 hi),K9 hi]
   ·rw[K8 (fun e=>hi (Bf.1 e)),K8 hi]
    congr 1;unfold nG;rw[List.filterMap_map];have hys:∀y∈ys,0<=ah ((cc (av x)).1.Lx.map aH.name) y.1:=by
     unfold kO lT at hs;simp only[Li]at hs;exact r7 _ _ _ hs.2.1
    exact x9 ys (fun y hy=>G2 h ht hok NG hi y (hys y hy))
 ·rw[K8 h0,K8 h0,K9 h0]
theorem C0:∀(f:Nat) (s:St),(fI f s).1.length<=f
 |0,s=>KK _
 |f+1,s=>by
  rw[fI];split
  ·simp
  ·dsimp only
   generalize (if kg (nm s)=true then none else ab s)=s1;have:=C0 f s1;cases ia s1
   ·simp
   ·simp;omega
theorem I0(s:St):(iq s).1.LA.length<=801:=by
 unfold iq;split
 ·exact C0 801 _
 ·simp
structure qY(d:eG)(s:St):Prop where
 n:d.Lu.length+d.Lv.length+ln s<=801
 i:∀r∈d.Lu,r.LA.length<=801
theorem JO(d:eG)(s:St)(h:qY d s):qY (eB d s).1 (eB d s).2:=by
 have hl:ln s<=801:=by have:=h.n;omega
 have h2:ln (eB d s).2<=ln (ab s):=by rw[pR d d8 s hl];exact oF d8 s
 have hn:=h.n;have key:∀y,nm s=y->y≠⟨#[]⟩->ln (ab s)+1<=ln s:=fun y e hy=>by
  cases s with
  |none=>exact absurd (by rw[<-e];rfl) hy
  |some l=>
   obtain⟨x,l1,rfl,_,ht⟩:=sW hy e;rw[ht];simp[ln]
 revert h2;unfold eB;split
 ·rename_i e
  intro h2;have:=key _ e (by decide);refine⟨by simp at h2⊢;omega,fun r hr=>?_⟩;rcases List.mem_append.1 hr with a|a
  ·exact h.i r a
  ·rw[List.mem_singleton]at a;rw[a];exact I0 _
 ·split
  ·rename_i e
   intro h2;have:=key _ e (by decide);exact⟨by simp at h2⊢;omega,h.i⟩
  ·split
   ·rename_i e
    intro h2;have:=key _ e (by decide);exact⟨by simp at h2⊢;omega,h.i⟩
   ·split
    ·rename_i e
     intro h2;have:=key _ e (by decide);exact⟨by simp at h2⊢;omega,h.i⟩
    ·intro _
     exact⟨by simp[ln];omega,h.i⟩
theorem zo:∀(f:Nat) (d:eG) (s:St),qY d s->qY (gv f d s).1 (gv f d s).2
 |0,d,s,h=>h
 |f+1,d,s,h=>by
  rw[gv];split
  ·exact h
  ·exact zo f _ _ (JO d s h)
theorem Jn(x:Ls):qY (cE (av x)).1 (cE (av x)).2:=by
 unfold cE;refine zo _ _ _ ⟨?_,fun r hr=>by simp[iz]at hr⟩;have hl:=ph x;generalize av x=s at hl;have:ln (o7 s)<=ln s:=by
  match s with
  |none=>exact KK _
  |some []=>exact KU _
  |some (t::l)=>exact KK _
 simp[iz];omega
theorem GE{c:b9}{M:List PD}{d:eG}(h:i8 c d M)(hr:jz c=true)(m:PD)(hm:m∈M)(t:ap)(ht:fG t m):∀f∈t.fields,∃ty,fZ ty/\ci ty=f.ty/\f.ty.size<=100000/\(co (bN ty)=true\/¬ah (d.Lv.map ap.name) (bN ty)<0):=by
 have hc:=(zM h hr).2;have hin:∀f:ax,(co (bN f.ty)=true\/bN f.ty∈M.map PD.name)->iU f->∃ty,fZ ty/\ci ty=(dg f).ty/\(dg f).ty.size<=100000/\(co (bN ty)=true\/¬ah (d.Lv.map ap.name) (bN ty)<0):=fun f hf ho=>
  ⟨f.ty,ho.ty,rfl,ho.size,hf.imp (fun e=>e) (fun e=>(iT _ _).2 (by rw[h.f.names];exact e))⟩
 cases m with
 |o x=>
  intro f hf;rw[ht.2.2.1]at hf;obtain⟨g,hg,rfl⟩:=List.mem_map.1 hf;exact hin g (hc x (by rw[h.o];exact List.mem_filterMap.2 ⟨_,hm,rfl⟩) g hg) (ht.2.2.2.2.2.2 g hg)
 |i x=>
  intro f hf;rw[ht.1]at hf;obtain⟨g,hg,rfl⟩:=List.mem_map.1 hf;refine hin g ?_ (ht.2 g hg);unfold jz at hr;simp only[Li]at hr;have hi:=hr.2.2.2.1;rw[Lh]at hi;have:=hi x (by rw[h.i];exact List.mem_filterMap.2 ⟨_,hm,rfl⟩);unfold fu jM at this;simp only[Li,Lh,Lc]at this;have h1:=(this.1 g hg).2.1;rw[show oa c=dF M from h.kind]at h1;by_cases hs:co (bN g.ty)=true
  ·exact Or.inl hs
  ·refine Or.inr (Classical.byContradiction fun hn=>?_)
   have:=xt M (bN g.ty);rw[Le h1]at this;simp only[Bool.not_eq_true]at hs;rw[hs,Bool.false_or]at this;exact hn ((jK _ _).1 this.symm)
 |u x=>
  intro f hf;rw[show t=_ from ht]at hf;simp at hf
theorem EI(x:Ls)(h0:lW x=0):Cv (cE (av x)).1.Lu (cE (av x)).1.Lv (nI (cc (av x)).1 (cE (av x)).1):=by
 rw[CA]at h0;obtain⟨M,h,hro⟩:=AV x h0;have ht:=A3 x (tu h0);have hr:=ro x h0;have NG:=vS x (by rw[(r8 (av x) (ph x) (p8 x)).1];exact tu h0);have hL:=Jn x;have hn:=hL.n;refine⟨by omega,?_,by omega,fun d hd=>⟨(NG d hd).nf,(NG d hd).na,(NG d hd).sort,(NG d hd).nr,(NG d hd).tok⟩,fun t htm f hf=>?_,fun k t hk hru=>?_⟩
 ·have h1:=uy _ hL.i
  have:(cE (av x)).1.Lu.length*801<=801*801:=Nat.mul_le_mul_right _ (by omega);omega
 ·obtain⟨k,hk,e⟩:=List.getElem_of_mem htm
  obtain⟨m,hm,hrel⟩:=h.f.get k t (by rw[KM hk,e]);exact GE h hr m (KN hm) t hrel f hf
 ·obtain⟨m,hm,hrel⟩:=h.f.get k t hk
  cases m with
  |o y=>
   have:=(wV M h.n y (KN hm)).2;rw[<-h.o]at this;exact(AQ h ht this hk hrel (by rw[<-hrel.2.2.2.2.1];exact hru)).2
  |i y=>rw[hrel.1]at hru;cases hru
  |u y=>rw[show t=_ from hrel]at hru;cases hru
theorem BG(x LK vid:Ls)(aY:Option Addr)(cY:Nat)(ys:List bo)(w:World)(hs:x.size<=maxLen)(hY:eM w (.slice aY ys.length cY) ys)(hyl:ys.length<=1000000)(hcl:∀y∈ys,y.2.2.length<=1000000/\∀c∈y.2.2,c.2.size<=maxLen):
 Calls prog 14 #[.string x,.slice aY ys.length cY,.agg #[.string LK,.string vid]] w fun e w'=>∃vO xs,e=.returned (.tuple #[vO,.int .i64 (iO x ys LK vid).2])/\dw w' w.heap.size vO xs/\xs.map (·.1)=(iO x ys LK vid).1/\Lt w w':=by
 rw[Dv];exact Gy _ x LK vid aY cY ys w hs (vS x) hY hyl hcl (EI x)
end Go.Proofs.YtgbloieahmkcjaaGreat
