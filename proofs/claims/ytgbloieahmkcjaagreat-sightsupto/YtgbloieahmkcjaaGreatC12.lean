import Derived.Test.YtgbloieahmkcjaaGreatC11
import Derived.Test.YtgbloieahmkcjaaGreatC05
namespace Go.Proofs.YtgbloieahmkcjaaGreat
set_option maxHeartbeats 20000000
set_option maxRecDepth 100000
open Go.RowKit Tryz
theorem Gt(k n:Int)(y:Ls)(w:World):(Instr.field 223 (.agg #[.int .i64 k,.string y,.int .i64 n]) 0).run prog w=.ok (.int .i64 k) w:=by kernel_rfl
theorem vW(k n:Int)(y:Ls)(w:World):(Instr.field 223 (.agg #[.int .i64 k,.string y,.int .i64 n]) 1).run prog w=.ok (.string y) w:=by kernel_rfl
theorem qw(w:World)(b G:Nat)(s:St)(K:Nat)(h:PS w b G s):
 Calls prog 128 #[.pointer (some ⟨b,0,none⟩),.int .i64 K] w fun e w'=>e=.returned (.bool (af s K))/\Lt w w':=by
 have NA:=Gt;have hp:=uv w b G s h;have HQ:=aa (show af s K=decide ((hd s).k=K)from by unfold af;rw[Bool.eq_iff_iff];simp);generalize (hd s).k=k1 at*;generalize (hd s).s=y at*;generalize (hd s).n=n at*;by_cases e1:k1=K
 ·have t:((k1:Int)==K)=true:=by simp;omega
  go_enter func128,ntmps128;go_wp2_with fail;refine hp.mono ?_;clear hp;rintro e w1 ⟨rfl,hb1⟩;go_wp2_with fail;go_ret;exact⟨am (by rw[HQ.o,Le e1]),hb1⟩
 ·have t:((k1:Int)==K)=false:=by simp;omega
  go_enter func128,ntmps128;go_wp2_with fail;refine hp.mono ?_;clear hp;rintro e w1 ⟨rfl,hb1⟩;go_wp2_with fail;go_ret;exact⟨am (by rw[HQ.o,KT e1]),hb1⟩
theorem DZ(w:World)(b G:Nat)(s:St)(x:Ls)(h:PS w b G s):
 Calls prog 166 #[.pointer (some ⟨b,0,none⟩),.string x] w fun e w'=>e=.returned (.bool (aq s x))/\Lt w w':=by
 have hp:=uv w b G s h;have HQ:=aa (show aq s x=(decide ((hd s).k=1)&&((hd s).s.toList==x.toList))from by unfold aq;rw[bY];congr 1);generalize (hd s).k=k1 at*;generalize (hd s).s=y at*;generalize (hd s).n=n at*;by_cases e1:k1=1
 ·subst e1
  go_enter func166,ntmps166;go_wp2_with fail;refine hp.mono ?_;clear hp;rintro e w1 ⟨rfl,hb1⟩;go_wp2_with fail;go_ret;exact⟨am (by rw[HQ.o];simp),hb1.alloc hb1.size _⟩
 ·have t:((k1:Int)==1)=false:=by simp;omega
  go_enter func166,ntmps166;go_wp2_with fail;refine hp.mono ?_;clear hp;rintro e w1 ⟨rfl,hb1⟩;go_wp2_with fail;go_ret;exact⟨am (by rw[HQ.o,KT e1];rfl),hb1.alloc hb1.size _⟩
theorem uf(w:World)(b G:Nat)(s:St)(h:PS w b G s):
 Calls prog 165 #[.pointer (some ⟨b,0,none⟩)] w fun e w'=>e=.returned (.agg #[.int .i64 (hd s).k,.string (hd s).s,.int .i64 (hd s).n])/\PS w' b G (tl s)/\ai b w w':=by
 have hlt:=h.lt;have h':PS (w.alloc (.cells #[.int .i64 0,.string ⟨#[]⟩,.int .i64 0] 223)) b G s:=h.below ((KL _ _).alloc (KK _) _);have hp:=uv _ b G s h'
 match s,h,h',hp with
 |some (t::l),h,h',hp=>
  have hp:Calls prog 130 #[.pointer (some ⟨b,0,none⟩)] (w.alloc (.cells #[.int .i64 0,.string ⟨#[]⟩,.int .i64 0] 223)) fun e w'=>e=.returned (.agg #[.int .i64 t.k,.string t.s,.int .i64 t.n])/\Below (w.alloc (.cells #[.int .i64 0,.string ⟨#[]⟩,.int .i64 0] 223)).heap.size (w.alloc (.cells #[.int .i64 0,.string ⟨#[]⟩,.int .i64 0] 223)) w':=hp;show Calls _ _ _ _ fun e w'=>e=.returned (.agg #[.int .i64 t.k,.string t.s,.int .i64 t.n])/\PS w' b G (some l)/\ai b w w';obtain⟨v0,p1,p2,_⟩:=h.st;obtain⟨off,cap,cur,rfl,Oh,hg0,_,_,_,htoks⟩:=Cq p2;have hgw:=ag hg0;have HT:=aa htoks;have HG0:=aa hg0;have HP1:=aa p1;clear htoks hg0 p1 p2;go_enter func165,ntmps165;go_wp2_with fail;refine hp.mono ?_;clear hp;rintro e w1 ⟨rfl,hb1⟩;have hX:=(h'.below hb1).below ((KL _ _).alloc (KK _) (.cells #[.int .i64 t.k,.string t.s,.int .i64 t.n] 223));have hc:=pc _ b G _ hX;have LP:Lt w w1:=((KL _ _).alloc (KK _) _).trans (hb1.mono (by simp));have hlowX:Lt w (w1.alloc (.cells #[.int .i64 t.k,.string t.s,.int .i64 t.n] 223)):=LP.alloc LP.size _;have q1:=(hlowX.block b hlt).trans HP1.o;have hg:=(hlowX.block G hgw).trans HG0.o;have c0:(w1.alloc (.cells #[.int .i64 t.k,.string t.s,.int .i64 t.n] 223)).cell? ⟨b,0,none⟩=some (.slice (some ⟨G,off,none⟩) (l.length+1) cap):=ae q1 0;have f0:=ar q1 0;have hbw:b<w1.heap.size:=by have:=hb1.size;simp at this;omega
  have hgw1:G<w1.heap.size:=by have:=hb1.size;simp at this;omega
  have hs1:w.heap.size<w1.heap.size:=by have:=hb1.size;simp at this;omega
  have hcx:∀j,w1.cell? ⟨w.heap.size,j,none⟩=(w.alloc cu).cell? ⟨w.heap.size,j,none⟩:=fun j=>hb1.cell (by simp);have hf0:∀j,w1.frozen? ⟨w.heap.size,j,none⟩=false:=fun j=>by rw[hb1.frozen (by simp)];exact jg w _ j
  have hc0:w1.cell? ⟨w.heap.size,0,none⟩=some (.int .i64 0):=by rw[hcx];simp[cu]
  have hc1:w1.cell? ⟨w.heap.size,1,none⟩=some (.string ⟨#[]⟩):=by rw[hcx];simp[cu]
  have hc2:w1.cell? ⟨w.heap.size,2,none⟩=some (.int .i64 0):=by rw[hcx];simp[cu]
  have HK:=aa (ai.of_below (b:=b) LP);have HG:=aa ((LP.block G hgw).trans HG0.o);have HQ1:=aa ((LP.block b hlt).trans HP1.o);have N8:=aa hX.len;have HWF:=aa hX.wf;clear hcx hb1 hX q1 hg h h' HG0 HP1;go_wp2_with fail;refine hc.mono ?_;clear hc;rw[show eu (some (t::l))=false from rfl];rintro e w2 ⟨rfl,hw2⟩;have hw2:=hw2.symm;subst hw2;by_cases hc1':cap=1
  ·subst hc1'
   go_wp2_with fail;refine bodyPost_ret (v:=.agg #[.int .i64 t.k,.string t.s,.int .i64 t.n]) (by simp[results,results165,go_sem,hc0,hc1,hc2,hs1]) rfl ⟨rfl,⟨⟨.slice (some ⟨G,off,none⟩) 0 0,?_,?_,fun e=>by cases e⟩,?_,?_,?_⟩,?_⟩
   ·rw[bp _ _ _ (by simp[World.setCell];omega),lV _ _ _ (by omega),aJ HQ1.o 0 _];rfl
   ·left;exact⟨KZ (by simp only[Option.getD_some];omega),_,_,rfl⟩
   ·have:=N8.o;simp[ln]at this⊢;omega
   ·intro x hx;exact HWF.o x (List.mem_cons_of_mem _ hx)
   ·simp[World.setCell];omega
   ·exact((((HK.o.setCell 0 _).setNew _ (KK _) _).setNew _ (KK _) _).setNew _ (KK _) _).alloc _
  ·go_wp2_with fail
   refine bodyPost_ret (v:=.agg #[.int .i64 t.k,.string t.s,.int .i64 t.n]) (by simp[results,results165,go_sem,hc0,hc1,hc2,hs1]) rfl ⟨rfl,⟨⟨.slice (some ⟨G,off+3,none⟩) l.length (cap-1),?_,?_,fun e=>by cases e⟩,?_,?_,?_⟩,?_⟩
   ·rw[bp _ _ _ (by simp[World.setCell];omega),lV _ _ _ (by omega),aJ HQ1.o 0 _];rfl
   ·right;exact⟨off+3,cap-1,cur,rfl,by simp only[Option.getD_some];omega,by rw[bp _ _ _ (by simp[World.setCell];omega),lV _ _ _ (by omega),KX _ _ _ _ (fun e=>by subst e;have:=HQ1.o;rw[HG.o]at this;cases this)];exact HG.o,HT.o⟩
   ·have:=N8.o;simp[ln]at this⊢;omega
   ·intro x hx;exact HWF.o x (List.mem_cons_of_mem _ hx)
   ·simp[World.setCell];omega
   ·exact((((HK.o.setCell 0 _).setNew _ (KK _) _).setNew _ (KK _) _).setNew _ (KK _) _).alloc _
 |some [],h,h',hp=>
  have hp:Calls prog 130 #[.pointer (some ⟨b,0,none⟩)] (w.alloc (.cells #[.int .i64 0,.string ⟨#[]⟩,.int .i64 0] 223)) fun e w'=>e=.returned (.agg #[.int .i64 0,.string ⟨#[]⟩,.int .i64 0])/\Below (w.alloc (.cells #[.int .i64 0,.string ⟨#[]⟩,.int .i64 0] 223)).heap.size (w.alloc (.cells #[.int .i64 0,.string ⟨#[]⟩,.int .i64 0] 223)) w':=hp;show Calls _ _ _ _ fun e w'=>e=.returned (.agg #[.int .i64 0,.string ⟨#[]⟩,.int .i64 0])/\PS w' b G (some [])/\ai b w w';go_enter func165,ntmps165;go_wp2_with fail;refine hp.mono ?_;clear hp;rintro e w1 ⟨rfl,hb1⟩;have hX0:=h'.below hb1;have hc:=pc _ b G _ (hX0.below ((KL _ _).alloc (KK _) (.cells #[.int .i64 0,.string ⟨#[]⟩,.int .i64 0] 223)));have hbw:b<w1.heap.size:=hX0.lt;have hgw1:G<w1.heap.size:=hX0.glt;have hgw:G<w.heap.size:=h.glt;have hs1:w.heap.size<w1.heap.size:=by have:=hb1.size;simp at this;omega
  have hcx:∀j,w1.cell? ⟨w.heap.size,j,none⟩=(w.alloc cu).cell? ⟨w.heap.size,j,none⟩:=fun j=>hb1.cell (by simp);have hf0:∀j,w1.frozen? ⟨w.heap.size,j,none⟩=false:=fun j=>by rw[hb1.frozen (by simp)];exact jg w _ j
  have hc0:w1.cell? ⟨w.heap.size,0,none⟩=some (.int .i64 0):=by rw[hcx];simp[cu]
  have hc1:w1.cell? ⟨w.heap.size,1,none⟩=some (.string ⟨#[]⟩):=by rw[hcx];simp[cu]
  have hc2:w1.cell? ⟨w.heap.size,2,none⟩=some (.int .i64 0):=by rw[hcx];simp[cu]
  have LP:Lt w w1:=((KL _ _).alloc (KK _) _).trans (hb1.mono (by simp));have HK:=aa (ai.of_below (b:=b) LP);have HX:=aa hX0;clear hcx hb1 hX0 h h';go_wp2_with fail;refine hc.mono ?_;clear hc;rw[show eu (some [])=true from rfl];rintro e w2 ⟨rfl,hw2⟩;have hw2:=hw2.symm;subst hw2;go_wp2_with fail;refine bodyPost_ret (v:=.agg #[.int .i64 0,.string ⟨#[]⟩,.int .i64 0]) (by simp[results,results165,go_sem,hc0,hc1,hc2,hs1]) rfl ⟨rfl,?_,?_⟩
  ·exact HX.o.move (by rw[bp _ _ _ (by simp[World.setCell];omega),lV _ _ _ (by omega)]) (by rw[bp _ _ _ (by simp[World.setCell];omega),lV _ _ _ (by omega)]) (by simp[World.setCell])
  ·exact(((HK.o.setNew _ (KK _) _).setNew _ (KK _) _).setNew _ (KK _) _).alloc _
 |none,h,h',hp=>
  have hp:Calls prog 130 #[.pointer (some ⟨b,0,none⟩)] (w.alloc (.cells #[.int .i64 0,.string ⟨#[]⟩,.int .i64 0] 223)) fun e w'=>e=.returned (.agg #[.int .i64 0,.string ⟨#[]⟩,.int .i64 0])/\Below (w.alloc (.cells #[.int .i64 0,.string ⟨#[]⟩,.int .i64 0] 223)).heap.size (w.alloc (.cells #[.int .i64 0,.string ⟨#[]⟩,.int .i64 0] 223)) w':=hp;show Calls _ _ _ _ fun e w'=>e=.returned (.agg #[.int .i64 0,.string ⟨#[]⟩,.int .i64 0])/\PS w' b G none/\ai b w w';go_enter func165,ntmps165;go_wp2_with fail;refine hp.mono ?_;clear hp;rintro e w1 ⟨rfl,hb1⟩;have hX0:=h'.below hb1;have hc:=pc _ b G _ (hX0.below ((KL _ _).alloc (KK _) (.cells #[.int .i64 0,.string ⟨#[]⟩,.int .i64 0] 223)));have hbw:b<w1.heap.size:=hX0.lt;have hgw1:G<w1.heap.size:=hX0.glt;have hgw:G<w.heap.size:=h.glt;have hs1:w.heap.size<w1.heap.size:=by have:=hb1.size;simp at this;omega
  have hcx:∀j,w1.cell? ⟨w.heap.size,j,none⟩=(w.alloc cu).cell? ⟨w.heap.size,j,none⟩:=fun j=>hb1.cell (by simp);have hf0:∀j,w1.frozen? ⟨w.heap.size,j,none⟩=false:=fun j=>by rw[hb1.frozen (by simp)];exact jg w _ j
  have hc0:w1.cell? ⟨w.heap.size,0,none⟩=some (.int .i64 0):=by rw[hcx];simp[cu]
  have hc1:w1.cell? ⟨w.heap.size,1,none⟩=some (.string ⟨#[]⟩):=by rw[hcx];simp[cu]
  have hc2:w1.cell? ⟨w.heap.size,2,none⟩=some (.int .i64 0):=by rw[hcx];simp[cu]
  have LP:Lt w w1:=((KL _ _).alloc (KK _) _).trans (hb1.mono (by simp));have HK:=aa (ai.of_below (b:=b) LP);have HX:=aa hX0;clear hcx hb1 hX0 h h';go_wp2_with fail;refine hc.mono ?_;clear hc;rw[show eu none=true from rfl];rintro e w2 ⟨rfl,hw2⟩;have hw2:=hw2.symm;subst hw2;go_wp2_with fail;refine bodyPost_ret (v:=.agg #[.int .i64 0,.string ⟨#[]⟩,.int .i64 0]) (by simp[results,results165,go_sem,hc0,hc1,hc2,hs1]) rfl ⟨rfl,?_,?_⟩
  ·exact HX.o.move (by rw[bp _ _ _ (by simp[World.setCell];omega),lV _ _ _ (by omega)]) (by rw[bp _ _ _ (by simp[World.setCell];omega),lV _ _ _ (by omega)]) (by simp[World.setCell])
  ·exact(((HK.o.setNew _ (KK _) _).setNew _ (KK _) _).setNew _ (KK _) _).alloc _
end Go.Proofs.YtgbloieahmkcjaaGreat
