import Derived.Test.YtgbloieahmkcjaaGreatC34
import Derived.Laws.StructEq
import Derived.Laws.EntriesVeiled
import Derived.ChangeKeysEq
import Derived.Deep.RegionHeld3
namespace Go.Proofs.YtgbloieahmkcjaaGreat
set_option maxHeartbeats 20000000
set_option maxRecDepth 100000
open Go.RowKit Tryz
theorem eu168:prog.underlying 168=some (.struct (prog.fieldsOf 168)):=by kernel_rfl
theorem sh168:prog.stoodInHeld 168=false:=by kernel_rfl
theorem eg168:prog.eqGuardType prog.depth 168=false:=by kernel_rfl
theorem eu166:prog.underlying 166=some (.int .i64):=by kernel_rfl
theorem pk166:prog.plainKey 166=true:=by kernel_rfl
theorem pk3:prog.plainKey 3=true:=by kernel_rfl
theorem fs168:(prog.fieldsOf 168).toList.map (fun f=>(f.name,f.type,f.offset))=[("Kind",166,0),("Number",3,1),("Text",9,2)]:=by kernel_rfl
theorem zJ(w:World)(d t:Nat)(xs ys:Array Value)(f:Field)(fs:List Field)(a b:Int)(hn:f.name≠ "_")(ht:f.type=t)(hu:prog.underlying t=some (.int .i64))(hp:prog.plainKey t=true)(hx:xs[f.offset]?=some (.int .i64 a))(hy:ys[f.offset]?=some (.int .i64 b)):
 (Op.eqFields (d+1) xs ys (f::fs)).run prog w=if (a==b)=true then(Op.eqFields (d+1) xs ys fs).run prog w else .ok false w:=by
 rw[Op.eqFields,K9 hn,ht];simp only[Sem.run_bind];rw[run_part_plain w hp hx,Result.andThen_ok,run_part_plain w hp hy,Result.andThen_ok,run_equalIn_int w d t .i64 .i64 a b hu,Result.andThen_ok];cases (a==b)<;>simp
theorem EG(w:World)(a0 a1 b0 b1:Int)(a2 b2:Ls):
 (Op.equalIn 10000 168 (.agg #[.int .i64 a0,.int .i64 a1,.string a2]) (.agg #[.int .i64 b0,.int .i64 b1,.string b2])).run prog w=.ok ((a0==b0)&&((a1==b1)&&(a2.toList==b2.toList))) w:=by
 rw[run_equalIn_struct w 9999 168 _ _ eu168 sh168];have h:=fs168;generalize (prog.fieldsOf 168).toList=l at h;rcases l with _|⟨f0,_|⟨f1,_|⟨f2,_|⟨f3,l⟩⟩⟩⟩;all_goals first
  |(exfalso;have:=congrArg List.length h;simp at this;done)
  |skip
 ·simp only[List.map_cons,List.map_nil,List.cons.injEq,Prod.mk.injEq,and_true]at h
  obtain⟨⟨n0,t0,o0⟩,⟨n1,t1,o1⟩,⟨n2,t2,o2⟩⟩:=h;rw[zJ w 9998 166 _ _ f0 _ a0 b0 (by rw[n0];decide) t0 eu166 pk166 (by rw[o0];rfl) (by rw[o0];rfl)];rw[zJ w 9998 3 _ _ f1 _ a1 b1 (by rw[n1];decide) t1 underlying3 pk3 (by rw[o1];rfl) (by rw[o1];rfl)];rw[ov w 9998 _ _ f2 _ a2 b2 (by rw[n2];decide) t2 (by rw[o2];rfl) (by rw[o2];rfl)];rw[wK];cases (a0==b0)<;>cases (a1==b1)<;>cases (a2.toList==b2.toList)<;>rfl
theorem Eg(a b:Int)(c:Ls)(d:Option Addr)(e f:Nat)(w:World):(Instr.field 171 (.agg #[.int .i64 a,.int .i64 b,.string c,.slice d e f]) 0).run prog w=.ok (.agg #[.int .i64 a,.int .i64 b,.string c]) w:=by kernel_rfl
def pX(f:FV)(m:Nat×Int×Ls):Bool:=((f.sh:Int)==(m.1:Int))&&((f.n==m.2.1)&&(f.s.toList==m.2.2.toList))
def p7(w:World)(v:Value)(n:Ls)(k:Nat)(p:Value)(x:Int×Int×Ls):Prop:=∃b,v=.pointer (some ⟨b,0,none⟩)/\w.heap[b]?=some (.cells #[.string n,.int .i64 k,p,.int .i64 x.1,.int .i64 x.2.1,.string x.2.2] 216 (0,0))
theorem FN{W:World}{v g o:Nat}{id:Ls}{Lu:List Ls}(hv:jY W v id Lu)(n:Ls)(u p:Value)(x:Int×Int×Ls)(hu:p7 W u n 4 p x):
 Calls prog 82 #[.pointer (some ⟨v,0,none⟩),u,.pointer (some ⟨g,o,none⟩)] W fun e w'=>e=.returned (.bool (ba n Lu))/\Lt W w':=by
 obtain⟨b,rfl,hb⟩:=hu;have c:=ae hb;have hl:=ag hb;have hl1:b<W.heap.size+1:=by omega
 have hl2:b<W.heap.size+1+1:=by omega
 have HH:=aa (fun X (hX:Lt W X)=>Cs (hv.below hX) n);generalize ba n Lu=q at*;clear hb hv;go_enter func82,ntmps82;go_wp2_with fail;go_quiet ((go_at_call 116;refine Calls.quiet_of_same (HH.o _ ?_);(repeat' with_reducible first|exact KL _ _|refine below_drewN ?_ _|refine bA ?_ _)));go_wp2_with fail;go_ret;refine⟨rfl,?_⟩;repeat' with_reducible first|exact KL _ _|refine below_drewN ?_ _|refine bA ?_ _
theorem FD{W:World}{v g o:Nat}(n:Ls)(u p:Value)(x:Int×Int×Ls)(hu:p7 W u n 3 p x):
 Calls prog 82 #[.pointer (some ⟨v,0,none⟩),u,.pointer (some ⟨g,o,none⟩)] W fun e w'=>e=.returned (.bool true)/\Lt W w':=by
 obtain⟨b,rfl,hb⟩:=hu;have c:=ae hb;have hl:=ag hb;have hl1:b<W.heap.size+1:=by omega
 have hl2:b<W.heap.size+1+1:=by omega
 clear hb;go_enter func82,ntmps82;go_wp2_with fail;go_ret;refine⟨rfl,?_⟩;repeat' with_reducible first|exact KL _ _|refine below_drewN ?_ _|refine bA ?_ _
theorem JI{W:World}{v g o:Nat}{id:Ls}{Lu:List Ls}(hv:jY W v id Lu)(n:Ls)(u p:Value)(x:Nat×Int×Ls)(hu:p7 W u n 5 p (x.1,x.2.1,x.2.2))(vC:Value)(l:List eW)(hc:W.cell? ⟨g,o+2,none⟩=some vC)(hp:j5 W vC l)(hl:l.length<=1000000):
 Calls prog 82 #[.pointer (some ⟨v,0,none⟩),u,.pointer (some ⟨g,o,none⟩)] W fun e w'=>e=.returned (.bool (pX (j7 l n) (iQ id x.1 x.2.1 x.2.2)))/\Lt W w':=by
 obtain⟨b,rfl,hb⟩:=hu;have cb:=ae hb;have hlb:=ag hb;have HCO:=aa (fun X (hX:Lt W X)=>Ii X g o vC n l (ao hX hc) (hp.below hX) hl);have HME:=aa (fun X (hX:Lt W X)=>IY X v id Lu (hv.below hX) x.1 x.2.1 x.2.2);have HQ:=aa (show pX (j7 l n) (iQ id x.1 x.2.1 x.2.2)=((((j7 l n).sh:Int)==((iQ id x.1 x.2.1 x.2.2).1:Int))&&(((j7 l n).n==(iQ id x.1 x.2.1 x.2.2).2.1)&&((j7 l n).s.toList==(iQ id x.1 x.2.1 x.2.2).2.2.toList)))from rfl);generalize pX (j7 l n) (iQ id x.1 x.2.1 x.2.2)=q at*;unfold bw at HCO;generalize j7 l n=f at*;generalize iQ id x.1 x.2.1 x.2.2=m at*;have hq:=EG;have he:=eg168;have hrf:=Eg;have hl1:b<W.heap.size+1:=by omega
 have hl2:b<W.heap.size+1+1:=by omega
 clear hb hv hp hc;go_enter func82,ntmps82;go_wp2_with fail;have hB3:Lt W (((W.alloc (.cells #[.pointer (some ⟨v,0,none⟩)] 68)).alloc (.cells #[.pointer (some ⟨g,o,none⟩)] 103)).alloc (.cells #[.func (Fn.func 113) #[] #[.pointer (some ⟨W.heap.size,0,none⟩),.pointer (some ⟨W.heap.size+1,0,none⟩)]] 212)):=bA (bA (bA (KL _ _) _) _) _;have hA:=uQ W (.cells #[.pointer (some ⟨v,0,none⟩)] 68) (.cells #[.pointer (some ⟨g,o,none⟩)] 103) (.cells #[.func (Fn.func 113) #[] #[.pointer (some ⟨W.heap.size,0,none⟩),.pointer (some ⟨W.heap.size+1,0,none⟩)]] 212);obtain⟨hA0,hA1, -⟩:=hA;have a0:=ae hA0;have a1:=ae hA1;have a2:∀k,_:=fun k=>(hB3.cell (p:=⟨b,k,none⟩) hlb).trans (cb k);have hz0:=ag hA0;have hz1:=ag hA1;have hzb:=KV hlb hB3.size;clear hA0 hA1;generalize (((W.alloc (.cells #[.pointer (some ⟨v,0,none⟩)] 68)).alloc (.cells #[.pointer (some ⟨g,o,none⟩)] 103)).alloc (.cells #[.func (Fn.func 113) #[] #[.pointer (some ⟨W.heap.size,0,none⟩),.pointer (some ⟨W.heap.size+1,0,none⟩)]] 212))=W3 at*;have HB:=aa hB3;have HS:=aa (fun V (hV:Lt W3 V)=>And.intro hV (And.intro (fun k=>(hV.cell (p:=⟨W.heap.size,k,none⟩) hz0).trans (a0 k)) (And.intro (fun k=>(hV.cell (p:=⟨W.heap.size+1,k,none⟩) hz1).trans (a1 k)) (fun k=>(hV.cell (p:=⟨b,k,none⟩) hzb).trans (a2 k)))));clear a0 a1 a2 hB3 cb;go_region_held3 (fun V=>Lt W3 V/\(∀k,V.cell? ⟨W.heap.size,k,none⟩=(#[.pointer (some ⟨v,0,none⟩)]:Array Value)[k]?)/\(∀k,V.cell? ⟨W.heap.size+1,k,none⟩=(#[.pointer (some ⟨g,o,none⟩)]:Array Value)[k]?)/\∀k,V.cell? ⟨b,k,none⟩=(#[.string n,.int .i64 5,p,.int .i64 x.1,.int .i64 x.2.1,.string x.2.2]:Array Value)[k]?)
  (first|exact HS.o _ (KL _ _).drew|exact HS.o _ (bT bh b2)|exact HS.o _ (bT bh b1))
  (first
  |(go_at_call 117;obtain⟨bh, -⟩:= ‹Lt W3 _/\_›;refine(HCO.o _ (bT HB.o bh)).mono ?_;rintro _ w1 ⟨rfl,b1⟩)
  |(go_at_call 118;obtain⟨bh, -⟩:= ‹Lt W3 _/\_›;refine(HME.o _ (bT HB.o bh)).mono ?_;rintro _ w2 ⟨rfl,b2⟩))
 all_goals(obtain⟨bh, -⟩:= ‹Lt W3 _/\_›;(try go_wp2_with fail);go_ret;exact⟨am (by rw[HQ.o]),bT HB.o bh⟩)
def nj(W:World)(v g o:Nat)(u:Value)(q:Bool):Prop:=∀X,Lt W X->Calls prog 82 #[.pointer (some ⟨v,0,none⟩),u,.pointer (some ⟨g,o,none⟩)] X fun e w'=>e=.returned (.bool q)/\Lt X w'
theorem xx{W:World}{v g o Z Y:Nat}{a:Option Addr}{q:Bool}(hc:nj W v g o (.pointer a) q)(X:World)(hX:Lt W X)(hz:X.cell? ⟨Z,0,none⟩=some (.pointer (some ⟨v,0,none⟩)))(hy:X.cell? ⟨Y,0,none⟩=some (.pointer (some ⟨g,o,none⟩))):
 Calls prog 113 #[.pointer a,.pointer (some ⟨Z,0,none⟩),.pointer (some ⟨Y,0,none⟩)] X fun e w'=>e=.returned (.bool q)/\Lt X w':=by
 have HC:=aa (hc X hX);clear hc hX;go_enter func113,ntmps113;go_wp2_with fail;refine HC.o.mono ?_;rintro _ w1 ⟨rfl,b1⟩;go_wp2_with fail;go_ret;exact⟨rfl,b1⟩
theorem Hb{X:World}{Z Y B:Nat}{a:Option Addr}{q:Bool}(hb:X.cell? ⟨B,0,none⟩=some (.func (Fn.func 113) #[] #[.pointer (some ⟨Z,0,none⟩),.pointer (some ⟨Y,0,none⟩)]))
 (hc:Calls prog 113 #[.pointer a,.pointer (some ⟨Z,0,none⟩),.pointer (some ⟨Y,0,none⟩)] X fun e w'=>e=.returned (.bool q)/\Lt X w'):
 Calls prog 115 #[.pointer a,.pointer (some ⟨B,0,none⟩)] X fun e w'=>e=.returned (.bool (!q))/\Lt X w':=by
 have HC:=aa hc;clear hc;go_enter func115,ntmps115;go_wp2_with fail;refine HC.o.mono ?_;rintro _ w1 ⟨rfl,b1⟩;go_wp2_with fail;go_ret;exact⟨rfl,b1⟩
def tD(W:World)(v g o:Nat):World:=((W.alloc (.cells #[.pointer (some ⟨v,0,none⟩)] 68)).alloc (.cells #[.pointer (some ⟨g,o,none⟩)] 103)).alloc (.cells #[.func (Fn.func 113) #[] #[.pointer (some ⟨W.heap.size,0,none⟩),.pointer (some ⟨W.heap.size+1,0,none⟩)]] 212)
structure lY(W:World)(v g o:Nat)(X:World):Prop where
 b:Lt W X
 c0:X.cell? ⟨W.heap.size,0,none⟩=some (.pointer (some ⟨v,0,none⟩))
 c1:X.cell? ⟨W.heap.size+1,0,none⟩=some (.pointer (some ⟨g,o,none⟩))
 c2:X.cell? ⟨W.heap.size+1+1,0,none⟩=some (.func (Fn.func 113) #[] #[.pointer (some ⟨W.heap.size,0,none⟩),.pointer (some ⟨W.heap.size+1,0,none⟩)])
theorem lY.start(W:World)(v g o:Nat):lY W v g o (tD W v g o):=by
 obtain⟨h0,h1,h2⟩:=uQ W (.cells #[.pointer (some ⟨v,0,none⟩)] 68) (.cells #[.pointer (some ⟨g,o,none⟩)] 103) (.cells #[.func (Fn.func 113) #[] #[.pointer (some ⟨W.heap.size,0,none⟩),.pointer (some ⟨W.heap.size+1,0,none⟩)]] 212);exact⟨bA (bA (bA (KL _ _) _) _) _,ae h0 0,ae h1 0,ae h2 0⟩
theorem lY.go{W X Y:World}{v g o:Nat}(h:lY W v g o X)(k:Lt X Y):lY W v g o Y:=⟨bT h.b k,ao k h.c0,ao k h.c1,ao k h.c2⟩
theorem Fg{W:World}{v g o:Nat}(n:Ls)(u p:Value)(x:Int×Int×Ls)(hu:p7 W u n 2 p x)(r:Option Addr)(hp:lh W p [.pointer r])(q:Bool)(hc:nj W v g o (.pointer r) q):
 Calls prog 82 #[.pointer (some ⟨v,0,none⟩),u,.pointer (some ⟨g,o,none⟩)] W fun e w'=>e=.returned (.bool (!q))/\Lt W w':=by
 obtain⟨b,rfl,hb⟩:=hu;obtain⟨a,cap,rfl,hh⟩:=hp;obtain⟨G,off,rfl,hr⟩:=hh.resolve_left (by simp);have hr0:=hr 0 _ rfl;simp only[Nat.add_zero]at hr0;have cb:=ae hb;have hlb:=ag hb;have hl1:b<W.heap.size+1:=by omega
 have hl2:b<W.heap.size+1+1:=by omega
 have HC:=aa (fun X (h:lY W v g o X)=>xx hc X h.b h.c0 h.c1);have HW:=aa (lY.start W v g o);clear hb hc hr hh;go_enter func82,ntmps82;go_wp2_with fail;have a2:∀k,_:=fun k=>(HW.o.b.cell (p:=⟨b,k,none⟩) hlb).trans (cb k);have a3:=ao HW.o.b hr0;have hzb:=KV hlb HW.o.b.size;unfold tD at HW a2 a3 hzb;generalize (((W.alloc (.cells #[.pointer (some ⟨v,0,none⟩)] 68)).alloc (.cells #[.pointer (some ⟨g,o,none⟩)] 103)).alloc (.cells #[.func (Fn.func 113) #[] #[.pointer (some ⟨W.heap.size,0,none⟩),.pointer (some ⟨W.heap.size+1,0,none⟩)]] 212))=W3 at*;have hc2:=HW.o.c2;have HS:=aa (fun V (hV:Lt W3 V)=>And.intro hV (And.intro (ao hV hc2) (And.intro (ao hV a3) (fun k=>(hV.cell (p:=⟨b,k,none⟩) hzb).trans (a2 k)))));clear a2 a3 cb hr0 hc2;go_region_held3 (fun V=>Lt W3 V/\V.cell? ⟨W.heap.size+1+1,0,none⟩=some (.func (Fn.func 113) #[] #[.pointer (some ⟨W.heap.size,0,none⟩),.pointer (some ⟨W.heap.size+1,0,none⟩)])/\V.cell? ⟨G,off,none⟩=some (.pointer r)/\∀k,V.cell? ⟨b,k,none⟩=(#[.string n,.int .i64 2,.slice (some ⟨G,off,none⟩) 1 cap,.int .i64 x.1,.int .i64 x.2.1,.string x.2.2]:Array Value)[k]?)
  (first|exact HS.o _ (KL _ _).drew|exact HS.o _ (bT bh b1))
  ((go_at_call 113;obtain⟨bh, -⟩:= ‹Lt W3 _/\_›;refine(HC.o _ (HW.o.go bh)).mono ?_;rintro _ w1 ⟨rfl,b1⟩))
 all_goals(obtain⟨bh, -⟩:= ‹Lt W3 _/\_›;(try go_wp2_with fail);go_ret;exact⟨rfl,bT HW.o.b bh⟩)
theorem DV{W:World}{v g o:Nat}(n:Ls)(u p:Value)(x:Int×Int×Ls)(hu:p7 W u n 0 p x)(us:List Value)(qs:List Bool)(hp:lh W p us)(hq:qs.length=us.length)(hl:us.length<=1000000)(MF:∀u∈us,∃q,u=.pointer q)
 (hc:∀(j:Nat) (u:Value) (b:Bool),us[j]?=some u->qs[j]?=some b->nj W v g o u b):
 Calls prog 82 #[.pointer (some ⟨v,0,none⟩),u,.pointer (some ⟨g,o,none⟩)] W fun e w'=>e=.returned (.bool (qs.any (fun b=>b)))/\Lt W w':=by
 obtain⟨b,rfl,hb⟩:=hu;have HP:=aa hp;obtain⟨a,cap,rfl,_⟩:=hp;have cb:=ae hb;have hlb:=ag hb;have hl1:b<W.heap.size+1:=by omega
 have hl2:b<W.heap.size+1+1:=by omega
 have HC:=aa (fun X (h:lY W v g o X)=>DD X _ W.heap.size (W.heap.size+1) us qs (HP.o.below h.b) hq hl MF (fun Y hY j u b h1 h2=>by
  obtain⟨z,rfl⟩:=MF u (KN h1);exact xx (hc j _ b h1 h2) Y (h.go hY).b (h.go hY).c0 (h.go hY).c1))
 have HW:=aa (lY.start W v g o);generalize qs.any (fun b=>b)=q at*;clear hb hc MF hq;go_enter func82,ntmps82;go_wp2_with fail;have a2:∀k,_:=fun k=>(HW.o.b.cell (p:=⟨b,k,none⟩) hlb).trans (cb k);have hzb:=KV hlb HW.o.b.size;unfold tD at HW a2 hzb;generalize (((W.alloc (.cells #[.pointer (some ⟨v,0,none⟩)] 68)).alloc (.cells #[.pointer (some ⟨g,o,none⟩)] 103)).alloc (.cells #[.func (Fn.func 113) #[] #[.pointer (some ⟨W.heap.size,0,none⟩),.pointer (some ⟨W.heap.size+1,0,none⟩)]] 212))=W3 at*;have hc2:=HW.o.c2;have HS:=aa (fun V (hV:Lt W3 V)=>And.intro hV (And.intro (ao hV hc2) (fun k=>(hV.cell (p:=⟨b,k,none⟩) hzb).trans (a2 k))));clear a2 cb hc2;go_region_held3 (fun V=>Lt W3 V/\V.cell? ⟨W.heap.size+1+1,0,none⟩=some (.func (Fn.func 113) #[] #[.pointer (some ⟨W.heap.size,0,none⟩),.pointer (some ⟨W.heap.size+1,0,none⟩)])/\∀k,V.cell? ⟨b,k,none⟩=(#[.string n,.int .i64 0,.slice a us.length cap,.int .i64 x.1,.int .i64 x.2.1,.string x.2.2]:Array Value)[k]?)
  (first|exact HS.o _ (KL _ _).drew|exact HS.o _ (bT bh b1))
  ((go_at_call 114;obtain⟨bh, -⟩:= ‹Lt W3 _/\_›;refine(HC.o _ (HW.o.go bh)).mono ?_;rintro _ w1 ⟨rfl,b1⟩))
 all_goals(obtain⟨bh, -⟩:= ‹Lt W3 _/\_›;(try go_wp2_with fail);go_ret;exact⟨rfl,bT HW.o.b bh⟩)
theorem Dg{W:World}{v g o:Nat}(n:Ls)(u p:Value)(x:Int×Int×Ls)(hu:p7 W u n 1 p x)(us:List Value)(qs:List Bool)(hp:lh W p us)(hq:qs.length=us.length)(hl:us.length<=1000000)(MF:∀u∈us,∃q,u=.pointer q)
 (hc:∀(j:Nat) (u:Value) (b:Bool),us[j]?=some u->qs[j]?=some b->nj W v g o u b):
 Calls prog 82 #[.pointer (some ⟨v,0,none⟩),u,.pointer (some ⟨g,o,none⟩)] W fun e w'=>e=.returned (.bool (!((qs.map (fun b=>!b)).any (fun b=>b))))/\Lt W w':=by
 obtain⟨b,rfl,hb⟩:=hu;have HP:=aa hp;obtain⟨a,cap,rfl,_⟩:=hp;have cb:=ae hb;have hlb:=ag hb;have hl1:b<W.heap.size+1:=by omega
 have hl2:b<W.heap.size+1+1:=by omega
 have HC:=aa (fun X (h:lY W v g o X)=>Ix X _ (W.heap.size+1+1) us (qs.map (fun b=>!b)) (HP.o.below h.b) (by simpa using hq) hl MF (fun Y hY j u b h1 h2=>by
  obtain⟨z,rfl⟩:=MF u (KN h1);rw[La]at h2;rcases hj:qs[j]? with _|c<;>rw[hj]at h2
  ·simp at h2
  ·simp only[Option.map_some,Option.some.injEq]at h2
   subst h2;exact Hb (h.go hY).c2 (xx (hc j _ c h1 hj) Y (h.go hY).b (h.go hY).c0 (h.go hY).c1)))
 have HW:=aa (lY.start W v g o);unfold tD at HW;generalize (qs.map (fun b=>!b)).any (fun b=>b)=q at*;clear hb hc MF hq;go_enter func82,ntmps82;go_wp2_with fail;refine(HC.o _ HW.o).mono ?_;rintro _ w1 ⟨rfl,b1⟩;go_wp2_with fail;go_ret;exact⟨rfl,bT HW.o.b b1⟩
mutual
def iI(hs:Ls->Bool)(eqv:Ls->Option (Nat×Int×Ls)->Bool):aK->Bool
 | .all=>true
 | .is n=>hs n
 | .eq n v=>eqv n v
 | .not r=>!iI hs eqv r
 | .chain true l=>nY hs eqv l
 | .chain false l=>!qG hs eqv l
def nY(hs:Ls->Bool)(eqv:Ls->Option (Nat×Int×Ls)->Bool):List aK->Bool
 |[]=>false
 |t::l=>iI hs eqv t||nY hs eqv l
def qG(hs:Ls->Bool)(eqv:Ls->Option (Nat×Int×Ls)->Bool):List aK->Bool
 |[]=>false
 |t::l=>!iI hs eqv t||qG hs eqv l
end
theorem Fe(hs:Ls->Bool)(eqv:Ls->Option (Nat×Int×Ls)->Bool)(l:List aK):(l.map (iI hs eqv)).any (fun b=>b)=nY hs eqv l:=by
 induction l with
 |nil=>rw[nY];rfl
 |cons t l ih=>rw[nY,List.map_cons,List.any_cons,ih]
theorem JJ(hs:Ls->Bool)(eqv:Ls->Option (Nat×Int×Ls)->Bool)(l:List aK):((l.map (iI hs eqv)).map (fun b=>!b)).any (fun b=>b)=qG hs eqv l:=by
 induction l with
 |nil=>rw[qG];rfl
 |cons t l ih=>rw[qG,List.map_cons,List.map_cons,List.any_cons,ih]
theorem xc{w:World}{B:Nat}{v:Value}{us:List Value}(h:w.ownsRow B 161 1 v us.length us):lh w v us:=by
 rcases h.2 with⟨hv,h0⟩|⟨g,cap,cur,hv,hg,hh,hr⟩
 ·exact⟨none,0,by rw[hv,h0],Or.inl (KZ h0)⟩
 ·subst hv
  refine⟨_,cap,rfl,Or.inr ⟨g,0,rfl,fun j u hj=>?_⟩⟩;have hjl:j<us.length:=(KO.1 hj).1;rw[Nat.zero_add,<-hj];exact h.cellAt j (by omega)
theorem nj.mono{W X:World}{v g o:Nat}{u:Value}{q:Bool}(h:nj W v g o u q)(hX:Lt W X):nj X v g o u q:=fun Y hY=>h Y (bT hX hY)
def pD(l:List eW)(id n:Ls)(y:Option (Nat×Int×Ls)):Bool:=pX (j7 l n) (iQ id (iK y).1 (iK y).2.1 (iK y).2.2)
theorem H8{W:World}{v g o:Nat}{id:Ls}{Lu:List Ls}(hv:jY W v id Lu)(vC:Value)(l:List eW)(hc:W.cell? ⟨g,o+2,none⟩=some vC)(hp:j5 W vC l)(hl:l.length<=1000000){Q:Nat->Prop}{u:Value}{t:aK}(h:dt W Q u t):
 nj W v g o u (iI (fun n=>ba n Lu) (pD l id) t):=by
 induction h with
 |all k n z x y _ hb=>intro X hX;rw[iI];exact FD n _ _ (x,y,z) ⟨k,rfl,fO hX hb⟩
 |is k n z x y _ hb=>intro X hX;rw[iI];exact FN (hv.below hX) n _ _ (x,y,z) ⟨k,rfl,fO hX hb⟩
 |eq k n y _ hb=>intro X hX;rw[iI];exact JI (hv.below hX) n _ _ (iK y) ⟨k,rfl,fO hX hb⟩ vC l (ao hX hc) (hp.below hX) hl
 |not k n z x y p u t _ hb LJ _ hd ih=>
  intro X hX;rw[iI];obtain⟨j,rfl⟩:=hd.ptr;exact Fg n _ p (x,y,z) ⟨k,rfl,fO hX hb⟩ _ ((xc (us:=[_]) LJ).below hX) _ (ih.mono hX)
 |chain k c n z x y p vs ts _ hb LJ _ hle Me hd ih=>
  intro X hX;have MF:∀u∈vs,∃q,u=.pointer q:=fun u hu=>by
   obtain⟨j,hj,e⟩:=List.getElem_of_mem hu;obtain⟨q,hq⟩:=(hd j u _ (by rw[KM hj,e]) (KM (by omega:j<ts.length))).ptr;exact⟨_,hq⟩
  have hcs:∀(j:Nat) (u:Value) (b:Bool),vs[j]?=some u->(ts.map (iI (fun n=>ba n Lu) (pD l id)))[j]?=some b->nj X v g o u b:=fun j u b h1 h2=>by
   rw[La]at h2;rcases hj:ts[j]? with _|t<;>rw[hj]at h2
   ·simp at h2
   ·simp only[Option.map_some,Option.some.injEq]at h2
    subst h2;exact(ih j u t h1 hj).mono hX
  cases c
  ·rw[iI,<-JJ]
   exact Dg n _ p (x,y,z) ⟨k,rfl,fO hX hb⟩ vs _ ((xc LJ).below hX) (by simp[Me]) (by omega) MF hcs
  ·rw[iI,<-Fe]
   exact DV n _ p (x,y,z) ⟨k,rfl,fO hX hb⟩ vs _ ((xc LJ).below hX) (by simp[Me]) (by omega) MF hcs
end Go.Proofs.YtgbloieahmkcjaaGreat
