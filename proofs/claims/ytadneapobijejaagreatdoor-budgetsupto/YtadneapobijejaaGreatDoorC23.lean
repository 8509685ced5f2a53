import Derived.Test.YtadneapobijejaaGreatDoorC22
import Derived.Laws.StructEq
import Derived.Laws.EntriesVeiled
import Derived.ChangeKeysEq
import Derived.Deep.RegionHeld3
import Derived.Deep.RegionLaw
import Derived.Deep.AppendLies
import Derived.Deep.DrawnRows
namespace Go.Proofs.YtadneapobijejaaGreatDoor
set_option maxHeartbeats 20000000
set_option maxRecDepth 100000
open Go.RowKit Tryz
theorem eu168:prog.underlying 116=some (.struct (prog.fieldsOf 116)):=by kernel_rfl
theorem sh168:prog.stoodInHeld 116=false:=by kernel_rfl
theorem eg168:prog.eqGuardType prog.depth 116=false:=by kernel_rfl
theorem eu166:prog.underlying 114=some (.int .i64):=by kernel_rfl
theorem pk166:prog.plainKey 114=true:=by kernel_rfl
theorem pk3:prog.plainKey 3=true:=by kernel_rfl
theorem fs168:(prog.fieldsOf 116).toList.map (fun f=>(f.name,f.type,f.offset))=[("Kind",114,0),("Number",3,1),("Text",9,2)]:=by kernel_rfl
theorem Og(w:World)(d t:Nat)(xs ys:Array Value)(f:Field)(fs:List Field)(a b:Int)(hn:f.name≠ "_")(ht:f.type=t)(hu:prog.underlying t=some (.int .i64))(hp:prog.plainKey t=true)(hx:xs[f.offset]?=some (.int .i64 a))(hy:ys[f.offset]?=some (.int .i64 b)):
 (Op.eqFields (d+1) xs ys (f::fs)).run prog w=if (a==b)=true then(Op.eqFields (d+1) xs ys fs).run prog w else .ok false w:=by
 rw[Op.eqFields,uC hn,ht];simp only[Sem.run_bind];rw[run_part_plain w hp hx,Result.andThen_ok,run_part_plain w hp hy,Result.andThen_ok,run_equalIn_int w d t .i64 .i64 a b hu,Result.andThen_ok];cases (a==b)<;>simp
theorem bH(w:World)(a0 a1 b0 b1:Int)(a2 b2:vD):
 (Op.equalIn 10000 116 (.agg #[.int .i64 a0,.int .i64 a1,.string a2]) (.agg #[.int .i64 b0,.int .i64 b1,.string b2])).run prog w=.ok ((a0==b0)&&((a1==b1)&&(a2.toList==b2.toList))) w:=by
 rw[run_equalIn_struct w 9999 116 _ _ eu168 sh168];have h:=fs168;generalize (prog.fieldsOf 116).toList=l at h;rcases l with _|⟨f0,_|⟨f1,_|⟨f2,_|⟨f3,l⟩⟩⟩⟩;all_goals first
  |(exfalso;have:=congrArg List.length h;simp at this;done)
  |skip
 ·simp only[List.map_cons,List.map_nil,List.cons.injEq,Prod.mk.injEq,and_true]at h
  obtain⟨⟨n0,t0,o0⟩,⟨n1,t1,o1⟩,⟨n2,t2,o2⟩⟩:=h;rw[Og w 9998 114 _ _ f0 _ a0 b0 (by rw[n0];decide) t0 eu166 pk166 (by rw[o0];rfl) (by rw[o0];rfl)];rw[Og w 9998 3 _ _ f1 _ a1 b1 (by rw[n1];decide) t1 underlying3 pk3 (by rw[o1];rfl) (by rw[o1];rfl)];rw[Qu w 9998 _ _ f2 _ a2 b2 (by rw[n2];decide) t2 (by rw[o2];rfl) (by rw[o2];rfl)];rw[TS];cases (a0==b0)<;>cases (a1==b1)<;>cases (a2.toList==b2.toList)<;>rfl
theorem qF(a b:Int)(c:vD)(d:Option Addr)(e f:Nat)(w:World):(Instr.field 238 (.agg #[.int .i64 a,.int .i64 b,.string c,.slice d e f]) 0).run prog w=.ok (.agg #[.int .i64 a,.int .i64 b,.string c]) w:=by kernel_rfl
def eq3(f:FV)(m:Nat×Int×vD):Bool:=((f.sh:Int)==(m.1:Int))&&((f.n==m.2.1)&&(f.s.toList==m.2.2.toList))
def Ln(w:World)(v:Value)(n:vD)(k:Nat)(p:Value)(x:Int×Int×vD):Prop:=∃b,v=.pointer (some ⟨b,0,none⟩)/\w.heap[b]?=some (.cells #[.string n,.int .i64 k,p,.int .i64 x.1,.int .i64 x.2.1,.string x.2.2] 285 (0,0))
theorem eB{W:World}{v g o:Nat}{id:vD}{roles:List vD}(hv:DM W v id roles)(n:vD)(u p:Value)(x:Int×Int×vD)(hu:Ln W u n 4 p x):
 Calls prog 246 #[.pointer (some ⟨v,0,none⟩),u,.pointer (some ⟨g,o,none⟩)] W fun e w'=>e=.returned (.bool (AS n roles))/\vE W w':=by
 obtain⟨b,rfl,hb⟩:=hu;have c:=Ac hb;have hl:=Ab hb;have hl1:b<W.heap.size+1:=by omega
 have hl2:b<W.heap.size+1+1:=by omega
 have HH:=Aa (fun X (hX:vE W X)=>Yj (hv.below hX) n);generalize AS n roles=q at*;clear hb hv;go_enter func246,ntmps246;go_wp2_with fail;go_quiet ((go_at_call 234;refine Calls.quiet_of_same (HH.o _ ?_);(repeat' with_reducible first|exact tM _ _|refine below_drewN ?_ _|refine bA ?_ _)));go_wp2_with fail;go_ret;refine⟨rfl,?_⟩;repeat' with_reducible first|exact tM _ _|refine below_drewN ?_ _|refine bA ?_ _
theorem dZ{W:World}{v g o:Nat}(n:vD)(u p:Value)(x:Int×Int×vD)(hu:Ln W u n 3 p x):
 Calls prog 246 #[.pointer (some ⟨v,0,none⟩),u,.pointer (some ⟨g,o,none⟩)] W fun e w'=>e=.returned (.bool true)/\vE W w':=by
 obtain⟨b,rfl,hb⟩:=hu;have c:=Ac hb;have hl:=Ab hb;have hl1:b<W.heap.size+1:=by omega
 have hl2:b<W.heap.size+1+1:=by omega
 clear hb;go_enter func246,ntmps246;go_wp2_with fail;go_ret;refine⟨rfl,?_⟩;repeat' with_reducible first|exact tM _ _|refine below_drewN ?_ _|refine bA ?_ _
theorem eF{W:World}{v g o:Nat}{id:vD}{roles:List vD}(hv:DM W v id roles)(n:vD)(u p:Value)(x:Nat×Int×vD)(hu:Ln W u n 5 p (x.1,x.2.1,x.2.2))(vC:Value)(l:List BR)(hc:W.cell? ⟨g,o+2,none⟩=some vC)(hp:Ge W vC l)(hl:l.length<=1000000):
 Calls prog 246 #[.pointer (some ⟨v,0,none⟩),u,.pointer (some ⟨g,o,none⟩)] W fun e w'=>e=.returned (.bool (eq3 (EC l n) (Gs id x.1 x.2.1 x.2.2)))/\vE W w':=by
 obtain⟨b,rfl,hb⟩:=hu;have cb:=Ac hb;have hlb:=Ab hb;have HCO:=Aa (fun X (hX:vE W X)=>TK X g o vC n l (Ah hX hc) (hp.below hX) hl);have HME:=Aa (fun X (hX:vE W X)=>kA X v id roles (hv.below hX) x.1 x.2.1 x.2.2);have HQ:=Aa (show eq3 (EC l n) (Gs id x.1 x.2.1 x.2.2)=((((EC l n).sh:Int)==((Gs id x.1 x.2.1 x.2.2).1:Int))&&(((EC l n).n==(Gs id x.1 x.2.1 x.2.2).2.1)&&((EC l n).s.toList==(Gs id x.1 x.2.1 x.2.2).2.2.toList)))from rfl);generalize eq3 (EC l n) (Gs id x.1 x.2.1 x.2.2)=q at*;unfold Ck at HCO;generalize EC l n=f at*;generalize Gs id x.1 x.2.1 x.2.2=m at*;have hq:=bH;have he:=eg168;have hrf:=qF;have hl1:b<W.heap.size+1:=by omega
 have hl2:b<W.heap.size+1+1:=by omega
 clear hb hv hp hc;go_enter func246,ntmps246;go_wp2_with fail;have hB3:vE W (((W.alloc (.cells #[.pointer (some ⟨v,0,none⟩)] 69)).alloc (.cells #[.pointer (some ⟨g,o,none⟩)] 128)).alloc (.cells #[.func (Fn.func 249) #[] #[.pointer (some ⟨W.heap.size,0,none⟩),.pointer (some ⟨W.heap.size+1,0,none⟩)]] 361)):=bA (bA (bA (tM _ _) _) _) _;have hA:=Hg W (.cells #[.pointer (some ⟨v,0,none⟩)] 69) (.cells #[.pointer (some ⟨g,o,none⟩)] 128) (.cells #[.func (Fn.func 249) #[] #[.pointer (some ⟨W.heap.size,0,none⟩),.pointer (some ⟨W.heap.size+1,0,none⟩)]] 361);obtain⟨hA0,hA1, -⟩:=hA;have a0:=Ac hA0;have a1:=Ac hA1;have a2:∀k,_:=fun k=>(hB3.cell (p:=⟨b,k,none⟩) hlb).trans (cb k);have hz0:=Ab hA0;have hz1:=Ab hA1;have hzb:=tV hlb hB3.size;clear hA0 hA1;generalize (((W.alloc (.cells #[.pointer (some ⟨v,0,none⟩)] 69)).alloc (.cells #[.pointer (some ⟨g,o,none⟩)] 128)).alloc (.cells #[.func (Fn.func 249) #[] #[.pointer (some ⟨W.heap.size,0,none⟩),.pointer (some ⟨W.heap.size+1,0,none⟩)]] 361))=W3 at*;have HB:=Aa hB3;have HS:=Aa (fun V (hV:vE W3 V)=>uV hV (uV (fun k=>(hV.cell (p:=⟨W.heap.size,k,none⟩) hz0).trans (a0 k)) (uV (fun k=>(hV.cell (p:=⟨W.heap.size+1,k,none⟩) hz1).trans (a1 k)) (fun k=>(hV.cell (p:=⟨b,k,none⟩) hzb).trans (a2 k)))));clear a0 a1 a2 hB3 cb;go_region_held3 (fun V=>vE W3 V/\(∀k,V.cell? ⟨W.heap.size,k,none⟩=(#[.pointer (some ⟨v,0,none⟩)]:Array Value)[k]?)/\(∀k,V.cell? ⟨W.heap.size+1,k,none⟩=(#[.pointer (some ⟨g,o,none⟩)]:Array Value)[k]?)/\∀k,V.cell? ⟨b,k,none⟩=(#[.string n,.int .i64 5,p,.int .i64 x.1,.int .i64 x.2.1,.string x.2.2]:Array Value)[k]?)
  (first|exact HS.o _ (tM _ _).drew|exact HS.o _ (bT bh b2)|exact HS.o _ (bT bh b1))
  (first
  |(go_at_call 187;obtain⟨bh, -⟩:= ‹vE W3 _/\_›;refine(HCO.o _ (bT HB.o bh)).mono ?_;rintro _ w1 ⟨rfl,b1⟩)
  |(go_at_call 252;obtain⟨bh, -⟩:= ‹vE W3 _/\_›;refine(HME.o _ (bT HB.o bh)).mono ?_;rintro _ w2 ⟨rfl,b2⟩))
 all_goals(obtain⟨bh, -⟩:= ‹vE W3 _/\_›;(try go_wp2_with fail);go_ret;exact⟨Ak (by rw[HQ.o]),bT HB.o bh⟩)
def Jh(W:World)(v g o:Nat)(u:Value)(q:Bool):Prop:=∀X,vE W X->Calls prog 246 #[.pointer (some ⟨v,0,none⟩),u,.pointer (some ⟨g,o,none⟩)] X fun e w'=>e=.returned (.bool q)/\vE X w'
theorem Qm{W:World}{v g o Z Y:Nat}{a:Option Addr}{q:Bool}(hc:Jh W v g o (.pointer a) q)(X:World)(hX:vE W X)(hz:X.cell? ⟨Z,0,none⟩=some (.pointer (some ⟨v,0,none⟩)))(hy:X.cell? ⟨Y,0,none⟩=some (.pointer (some ⟨g,o,none⟩))):
 Calls prog 249 #[.pointer a,.pointer (some ⟨Z,0,none⟩),.pointer (some ⟨Y,0,none⟩)] X fun e w'=>e=.returned (.bool q)/\vE X w':=by
 have HC:=Aa (hc X hX);clear hc hX;go_enter func249,ntmps249;go_wp2_with fail;refine HC.o.mono ?_;rintro _ w1 ⟨rfl,b1⟩;go_wp2_with fail;go_ret;exact⟨rfl,b1⟩
theorem ZP{X:World}{Z Y B:Nat}{a:Option Addr}{q:Bool}(hb:X.cell? ⟨B,0,none⟩=some (.func (Fn.func 249) #[] #[.pointer (some ⟨Z,0,none⟩),.pointer (some ⟨Y,0,none⟩)]))
 (hc:Calls prog 249 #[.pointer a,.pointer (some ⟨Z,0,none⟩),.pointer (some ⟨Y,0,none⟩)] X fun e w'=>e=.returned (.bool q)/\vE X w'):
 Calls prog 251 #[.pointer a,.pointer (some ⟨B,0,none⟩)] X fun e w'=>e=.returned (.bool (!q))/\vE X w':=by
 have HC:=Aa hc;clear hc;go_enter func251,ntmps251;go_wp2_with fail;refine HC.o.mono ?_;rintro _ w1 ⟨rfl,b1⟩;go_wp2_with fail;go_ret;exact⟨rfl,b1⟩
def Pw(W:World)(v g o:Nat):World:=((W.alloc (.cells #[.pointer (some ⟨v,0,none⟩)] 69)).alloc (.cells #[.pointer (some ⟨g,o,none⟩)] 128)).alloc (.cells #[.func (Fn.func 249) #[] #[.pointer (some ⟨W.heap.size,0,none⟩),.pointer (some ⟨W.heap.size+1,0,none⟩)]] 361)
structure Ic(W:World)(v g o:Nat)(X:World):Prop where
 b:vE W X
 c0:X.cell? ⟨W.heap.size,0,none⟩=some (.pointer (some ⟨v,0,none⟩))
 c1:X.cell? ⟨W.heap.size+1,0,none⟩=some (.pointer (some ⟨g,o,none⟩))
 c2:X.cell? ⟨W.heap.size+1+1,0,none⟩=some (.func (Fn.func 249) #[] #[.pointer (some ⟨W.heap.size,0,none⟩),.pointer (some ⟨W.heap.size+1,0,none⟩)])
theorem Ic.start(W:World)(v g o:Nat):Ic W v g o (Pw W v g o):=by
 obtain⟨h0,h1,h2⟩:=Hg W (.cells #[.pointer (some ⟨v,0,none⟩)] 69) (.cells #[.pointer (some ⟨g,o,none⟩)] 128) (.cells #[.func (Fn.func 249) #[] #[.pointer (some ⟨W.heap.size,0,none⟩),.pointer (some ⟨W.heap.size+1,0,none⟩)]] 361);exact⟨bA (bA (bA (tM _ _) _) _) _,Ac h0 0,Ac h1 0,Ac h2 0⟩
theorem Ic.go{W X Y:World}{v g o:Nat}(h:Ic W v g o X)(k:vE X Y):Ic W v g o Y:=⟨bT h.b k,Ah k h.c0,Ah k h.c1,Ah k h.c2⟩
theorem eG{W:World}{v g o:Nat}(n:vD)(u p:Value)(x:Int×Int×vD)(hu:Ln W u n 2 p x)(r:Option Addr)(hp:GB W p [.pointer r])(q:Bool)(hc:Jh W v g o (.pointer r) q):
 Calls prog 246 #[.pointer (some ⟨v,0,none⟩),u,.pointer (some ⟨g,o,none⟩)] W fun e w'=>e=.returned (.bool (!q))/\vE W w':=by
 obtain⟨b,rfl,hb⟩:=hu;obtain⟨a,cap,rfl,hh⟩:=hp;obtain⟨G,off,rfl,hr⟩:=hh.resolve_left (by simp);have hr0:=hr 0 _ rfl;simp only[Nat.add_zero]at hr0;have cb:=Ac hb;have hlb:=Ab hb;have hl1:b<W.heap.size+1:=by omega
 have hl2:b<W.heap.size+1+1:=by omega
 have HC:=Aa (fun X (h:Ic W v g o X)=>Qm hc X h.b h.c0 h.c1);have HW:=Aa (Ic.start W v g o);clear hb hc hr hh;go_enter func246,ntmps246;go_wp2_with fail;have a2:∀k,_:=fun k=>(HW.o.b.cell (p:=⟨b,k,none⟩) hlb).trans (cb k);have a3:=Ah HW.o.b hr0;have hzb:=tV hlb HW.o.b.size;unfold Pw at HW a2 a3 hzb;generalize (((W.alloc (.cells #[.pointer (some ⟨v,0,none⟩)] 69)).alloc (.cells #[.pointer (some ⟨g,o,none⟩)] 128)).alloc (.cells #[.func (Fn.func 249) #[] #[.pointer (some ⟨W.heap.size,0,none⟩),.pointer (some ⟨W.heap.size+1,0,none⟩)]] 361))=W3 at*;have hc2:=HW.o.c2;have HS:=Aa (fun V (hV:vE W3 V)=>uV hV (uV (Ah hV hc2) (uV (Ah hV a3) (fun k=>(hV.cell (p:=⟨b,k,none⟩) hzb).trans (a2 k)))));clear a2 a3 cb hr0 hc2;go_region_held3 (fun V=>vE W3 V/\V.cell? ⟨W.heap.size+1+1,0,none⟩=some (.func (Fn.func 249) #[] #[.pointer (some ⟨W.heap.size,0,none⟩),.pointer (some ⟨W.heap.size+1,0,none⟩)])/\V.cell? ⟨G,off,none⟩=some (.pointer r)/\∀k,V.cell? ⟨b,k,none⟩=(#[.string n,.int .i64 2,.slice (some ⟨G,off,none⟩) 1 cap,.int .i64 x.1,.int .i64 x.2.1,.string x.2.2]:Array Value)[k]?)
  (first|exact HS.o _ (tM _ _).drew|exact HS.o _ (bT bh b1))
  ((go_at_call 249;obtain⟨bh, -⟩:= ‹vE W3 _/\_›;refine(HC.o _ (HW.o.go bh)).mono ?_;rintro _ w1 ⟨rfl,b1⟩))
 all_goals(obtain⟨bh, -⟩:= ‹vE W3 _/\_›;(try go_wp2_with fail);go_ret;exact⟨rfl,bT HW.o.b bh⟩)
theorem eH{W:World}{v g o:Nat}(n:vD)(u p:Value)(x:Int×Int×vD)(hu:Ln W u n 0 p x)(us:List Value)(qs:List Bool)(hp:GB W p us)(hq:qs.length=us.length)(hl:us.length<=1000000)(wD:∀u∈us,∃q,u=.pointer q)
 (hc:∀(j:Nat) (u:Value) (b:Bool),us[j]?=some u->qs[j]?=some b->Jh W v g o u b):
 Calls prog 246 #[.pointer (some ⟨v,0,none⟩),u,.pointer (some ⟨g,o,none⟩)] W fun e w'=>e=.returned (.bool (qs.any (fun b=>b)))/\vE W w':=by
 obtain⟨b,rfl,hb⟩:=hu;have HP:=Aa hp;obtain⟨a,cap,rfl,_⟩:=hp;have cb:=Ac hb;have hlb:=Ab hb;have hl1:b<W.heap.size+1:=by omega
 have hl2:b<W.heap.size+1+1:=by omega
 have HC:=Aa (fun X (h:Ic W v g o X)=>Zc X _ W.heap.size (W.heap.size+1) us qs (HP.o.below h.b) hq hl wD (fun Y hY j u b h1 h2=>by
  obtain⟨z,rfl⟩:=wD u (tO h1);exact Qm (hc j _ b h1 h2) Y (h.go hY).b (h.go hY).c0 (h.go hY).c1))
 have HW:=Aa (Ic.start W v g o);generalize qs.any (fun b=>b)=q at*;clear hb hc wD hq;go_enter func246,ntmps246;go_wp2_with fail;have a2:∀k,_:=fun k=>(HW.o.b.cell (p:=⟨b,k,none⟩) hlb).trans (cb k);have hzb:=tV hlb HW.o.b.size;unfold Pw at HW a2 hzb;generalize (((W.alloc (.cells #[.pointer (some ⟨v,0,none⟩)] 69)).alloc (.cells #[.pointer (some ⟨g,o,none⟩)] 128)).alloc (.cells #[.func (Fn.func 249) #[] #[.pointer (some ⟨W.heap.size,0,none⟩),.pointer (some ⟨W.heap.size+1,0,none⟩)]] 361))=W3 at*;have hc2:=HW.o.c2;have HS:=Aa (fun V (hV:vE W3 V)=>uV hV (uV (Ah hV hc2) (fun k=>(hV.cell (p:=⟨b,k,none⟩) hzb).trans (a2 k))));clear a2 cb hc2;go_region_held3 (fun V=>vE W3 V/\V.cell? ⟨W.heap.size+1+1,0,none⟩=some (.func (Fn.func 249) #[] #[.pointer (some ⟨W.heap.size,0,none⟩),.pointer (some ⟨W.heap.size+1,0,none⟩)])/\∀k,V.cell? ⟨b,k,none⟩=(#[.string n,.int .i64 0,.slice a us.length cap,.int .i64 x.1,.int .i64 x.2.1,.string x.2.2]:Array Value)[k]?)
  (first|exact HS.o _ (tM _ _).drew|exact HS.o _ (bT bh b1))
  ((go_at_call 250;obtain⟨bh, -⟩:= ‹vE W3 _/\_›;refine(HC.o _ (HW.o.go bh)).mono ?_;rintro _ w1 ⟨rfl,b1⟩))
 all_goals(obtain⟨bh, -⟩:= ‹vE W3 _/\_›;(try go_wp2_with fail);go_ret;exact⟨rfl,bT HW.o.b bh⟩)
theorem eD{W:World}{v g o:Nat}(n:vD)(u p:Value)(x:Int×Int×vD)(hu:Ln W u n 1 p x)(us:List Value)(qs:List Bool)(hp:GB W p us)(hq:qs.length=us.length)(hl:us.length<=1000000)(wD:∀u∈us,∃q,u=.pointer q)
 (hc:∀(j:Nat) (u:Value) (b:Bool),us[j]?=some u->qs[j]?=some b->Jh W v g o u b):
 Calls prog 246 #[.pointer (some ⟨v,0,none⟩),u,.pointer (some ⟨g,o,none⟩)] W fun e w'=>e=.returned (.bool (!((qs.map (fun b=>!b)).any (fun b=>b))))/\vE W w':=by
 obtain⟨b,rfl,hb⟩:=hu;have HP:=Aa hp;obtain⟨a,cap,rfl,_⟩:=hp;have cb:=Ac hb;have hlb:=Ab hb;have hl1:b<W.heap.size+1:=by omega
 have hl2:b<W.heap.size+1+1:=by omega
 have HC:=Aa (fun X (h:Ic W v g o X)=>Zd X _ (W.heap.size+1+1) us (qs.map (fun b=>!b)) (HP.o.below h.b) (by simpa using hq) hl wD (fun Y hY j u b h1 h2=>by
  obtain⟨z,rfl⟩:=wD u (tO h1);rw[uD]at h2;rcases hj:qs[j]? with _|c<;>rw[hj]at h2
  ·simp at h2
  ·simp only[Option.map_some,Option.some.injEq]at h2
   subst h2;exact ZP (h.go hY).c2 (Qm (hc j _ c h1 hj) Y (h.go hY).b (h.go hY).c0 (h.go hY).c1)))
 have HW:=Aa (Ic.start W v g o);unfold Pw at HW;generalize (qs.map (fun b=>!b)).any (fun b=>b)=q at*;clear hb hc wD hq;go_enter func246,ntmps246;go_wp2_with fail;refine(HC.o _ HW.o).mono ?_;rintro _ w1 ⟨rfl,b1⟩;go_wp2_with fail;go_ret;exact⟨rfl,bT HW.o.b b1⟩
mutual
def Hm(hs:vD->Bool)(eqv:vD->Option (Nat×Int×vD)->Bool):Bl->Bool
 | .all=>true
 | .is n=>hs n
 | .eq n v=>eqv n v
 | .not r=>!Hm hs eqv r
 | .chain true l=>Mz hs eqv l
 | .chain false l=>!ON hs eqv l
def Mz(hs:vD->Bool)(eqv:vD->Option (Nat×Int×vD)->Bool):List Bl->Bool
 |[]=>false
 |t::l=>Hm hs eqv t||Mz hs eqv l
def ON(hs:vD->Bool)(eqv:vD->Option (Nat×Int×vD)->Bool):List Bl->Bool
 |[]=>false
 |t::l=>!Hm hs eqv t||ON hs eqv l
end
theorem Zb(hs:vD->Bool)(eqv:vD->Option (Nat×Int×vD)->Bool)(l:List Bl):(l.map (Hm hs eqv)).any (fun b=>b)=Mz hs eqv l:=by
 induction l with
 |nil=>rw[Mz];rfl
 |cons t l ih=>rw[Mz,List.map_cons,List.any_cons,ih]
theorem lH(hs:vD->Bool)(eqv:vD->Option (Nat×Int×vD)->Bool)(l:List Bl):((l.map (Hm hs eqv)).map (fun b=>!b)).any (fun b=>b)=ON hs eqv l:=by
 induction l with
 |nil=>rw[ON];rfl
 |cons t l ih=>rw[ON,List.map_cons,List.map_cons,List.any_cons,ih]
theorem RL{w:World}{B:Nat}{v:Value}{us:List Value}(h:w.ownsRow B 201 1 v us.length us):GB w v us:=by
 rcases h.2 with⟨hv,h0⟩|⟨g,cap,cur,hv,hg,hh,hr⟩
 ·exact⟨none,0,by rw[hv,h0],Or.inl (tZ h0)⟩
 ·subst hv
  refine⟨_,cap,rfl,Or.inr ⟨g,0,rfl,fun j u hj=>?_⟩⟩;have hjl:j<us.length:=(tP.1 hj).1;rw[Nat.zero_add,<-hj];exact h.cellAt j (by omega)
theorem Jh.mono{W X:World}{v g o:Nat}{u:Value}{q:Bool}(h:Jh W v g o u q)(hX:vE W X):Jh X v g o u q:=fun Y hY=>h Y (bT hX hY)
def eqP(l:List BR)(id n:vD)(y:Option (Nat×Int×vD)):Bool:=eq3 (EC l n) (Gs id (Fo y).1 (Fo y).2.1 (Fo y).2.2)
theorem eE{W:World}{v g o:Nat}{id:vD}{roles:List vD}(hv:DM W v id roles)(vC:Value)(l:List BR)(hc:W.cell? ⟨g,o+2,none⟩=some vC)(hp:Ge W vC l)(hl:l.length<=1000000){Q:Nat->Prop}{u:Value}{t:Bl}(h:BC W Q u t):
 Jh W v g o u (Hm (fun n=>AS n roles) (eqP l id) t):=by
 induction h with
 |all k n z x y _ hb=>intro X hX;rw[Hm];exact dZ n _ _ (x,y,z) ⟨k,rfl,KC hX hb⟩
 |is k n z x y _ hb=>intro X hX;rw[Hm];exact eB (hv.below hX) n _ _ (x,y,z) ⟨k,rfl,KC hX hb⟩
 |eq k n y _ hb=>intro X hX;rw[Hm];exact eF (hv.below hX) n _ _ (Fo y) ⟨k,rfl,KC hX hb⟩ vC l (Ah hX hc) (hp.below hX) hl
 |not k n z x y p u t _ hb hown _ hd ih=>
  intro X hX;rw[Hm];obtain⟨j,rfl⟩:=hd.ptr;exact eG n _ p (x,y,z) ⟨k,rfl,KC hX hb⟩ _ ((RL (us:=[_]) hown).below hX) _ (ih.mono hX)
 |chain k c n z x y p vs ts _ hb hown _ hle hlen hd ih=>
  intro X hX;have wD:∀u∈vs,∃q,u=.pointer q:=fun u hu=>by
   obtain⟨j,hj,e⟩:=List.getElem_of_mem hu;obtain⟨q,hq⟩:=(hd j u _ (by rw[tN hj,e]) (tN (by omega:j<ts.length))).ptr;exact⟨_,hq⟩
  have hcs:∀(j:Nat) (u:Value) (b:Bool),vs[j]?=some u->(ts.map (Hm (fun n=>AS n roles) (eqP l id)))[j]?=some b->Jh X v g o u b:=fun j u b h1 h2=>by
   rw[uD]at h2;rcases hj:ts[j]? with _|t<;>rw[hj]at h2
   ·simp at h2
   ·simp only[Option.map_some,Option.some.injEq]at h2
    subst h2;exact(ih j u t h1 hj).mono hX
  cases c
  ·rw[Hm,<-lH]
   exact eD n _ p (x,y,z) ⟨k,rfl,KC hX hb⟩ vs _ ((RL hown).below hX) (by simp[hlen]) (by omega) wD hcs
  ·rw[Hm,<-Zb]
   exact eH n _ p (x,y,z) ⟨k,rfl,KC hX hb⟩ vs _ ((RL hown).below hX) (by simp[hlen]) (by omega) wD hcs
def QQ(roles:List vD)(id:vD)(l:List BR)(rl:Option (List Cq))(t:Bl):Bool:=rl.isSome&&!Hm (fun n=>AS n roles) (eqP l id) t
theorem mW{W:World}{v g o gO k B:Nat}{id:vD}{roles:List vD}(hv:DM W v id roles)(vC u:Value)(l:List BR)(rl:Option (List Cq))(t:Bl)(h0:W.cell? ⟨g,o,none⟩=some (.pointer (some ⟨gO,k,none⟩)))(h3:W.cell? ⟨gO,k+3,none⟩=some u)(hc:W.cell? ⟨g,o+2,none⟩=some vC)(hp:Ge W vC l)(hl:l.length<=1000000)(hu:Hb W B u rl t):
 Calls prog 237 #[.pointer (some ⟨v,0,none⟩),.pointer (some ⟨g,o,none⟩)] W fun e w'=>e=.returned (.bool (QQ roles id l rl t))/\vE W w':=by
 have hgl:=tR W _ h0;have hgO:=tR W _ h3;rcases rl with _|z
 ·rw[show u=.pointer none from hu]at h3
  have he:QQ roles id l none t=false:=rfl;rw[he];clear hv hc hp hu he;go_enter func237,ntmps237;go_wp2_with fail;go_ret;exact⟨rfl,tM _ _⟩
 ·have HC:=Aa (eE hv vC l hc hp hl hu.1)
  have he:QQ roles id l (some z) t=!Hm (fun n=>AS n roles) (eqP l id) t:=rfl;rw[he];obtain⟨kb,rfl⟩:=hu.1.ptr;generalize Hm (fun n=>AS n roles) (eqP l id) t=q at*;clear hv hc hp hu he;go_enter func237,ntmps237;go_wp2_with fail;refine(HC.o _ (tM _ _)).mono ?_;rintro _ w1 ⟨rfl,b1⟩;go_wp2_with fail;go_ret;exact⟨rfl,b1⟩
end Go.Proofs.YtadneapobijejaaGreatDoor
