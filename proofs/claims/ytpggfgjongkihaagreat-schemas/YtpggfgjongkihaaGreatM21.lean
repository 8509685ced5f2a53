/- The program's parser: what a definition may turn; readTypeName. The program's parser: chains of rules. The program's parser: readClause, readRule, readUnit. -/
import Derived.Test.YtpggfgjongkihaaGreatM20
import Derived.Deep.RegionHeld3
namespace Go.Proofs.YtpggfgjongkihaaGreat
open Go.RowKit
attribute [local go_sem ↓] Go.wp_at_zero Go.wp_at_succ
theorem own_far {w : World} {base size n F : Nat} {e T : TypeId} {v : Value} {xs : List Value} {cs : Array Value} {fr : Nat × Nat} (ho : w.ownsRow base e size v n xs) (hF : w.heap[F]? = some (.cells cs T fr)) (hT : T ≠ e) : Option.some F ≠ v.ownBlock := fun x => by
  rcases ho.2 with ⟨y, _⟩ | ⟨g, cap, cur, hv, hg, hh, r⟩
  · rw [y] at x; cases x
  · rw [hv] at x
    have e3 := Option.some.inj (show some F = some g from x)
    rw [← e3, hF] at hh; cases hh; exact hT rfl
theorem PS.grown' {w w' : World} {b G : Nat} {s : St} {row : Option Nat} (h : PS w b G s) (hg : w.grownBy w' row) (hb : some b ≠ row) (hG : some G ≠ row) : PS w' b G s :=
  h.move (hg.block b h.lt hb) (hg.block G h.glt hG) hg.size
theorem PP.grown' {w w' : World} {p b S : Nat} {row : Option Nat} (h : PP w p b S) (hg : w.grownBy w' row) (hp : some p ≠ row) : PP w' p b S := by
  unfold PP at *
  rw [hg.block p (lt_of_block h) hp]; exact h
theorem PS.drew {w : World} {b G : Nat} {s : St} (h : PS w b G s) : PS w.drew b G s := h.move rfl rfl (Nat.le_refl _)
theorem PP.drew {w : World} {p b S : Nat} (h : PP w p b S) : PP w.drew p b S := h
/-- all old blocks but those of readers, schemas, names are as they were; and below S all but b -/
structure KeepY (b S : Nat) (w w' : World) : Prop where
  size : w.heap.size ≤ w'.heap.size
  block : ∀ (k : Nat) (cs : Array Value) (T : TypeId) (fr : Nat × Nat), w.heap[k]? = some (.cells cs T fr) → T ≠ 193 → T ≠ 133 → T ≠ 152 → w'.heap[k]? = some (.cells cs T fr)
  os : w'.os = w.os
  tape : w'.tape = w.tape
  output : w'.output = w.output
  low : ∀ k, k < S → k < w.heap.size → k ≠ b → w'.heap[k]? = w.heap[k]?
theorem KeepY.of_keep {b S : Nat} {w w' : World} {cs : Array Value} {fr : Nat × Nat} (h : Keep b w w') (hb : w.heap[b]? = some (.cells cs 193 fr)) : KeepY b S w w' :=
  ⟨h.size, fun k c T f hk h1 _ _ => by rw [h.block k (lt_of_block hk) (fun e => by subst e; rw [hb] at hk; cases hk; exact h1 rfl)]; exact hk, h.os, h.tape, h.output, fun k _ hk hb => h.block k hk hb⟩
theorem KeepY.refl (b S : Nat) (w : World) : KeepY b S w w := ⟨Nat.le_refl _, fun _ _ _ _ h _ _ _ => h, rfl, rfl, rfl, fun _ _ _ _ => rfl⟩
theorem KeepY.trans {b S : Nat} {x y z : World} (h : KeepY b S x y) (k : KeepY b S y z) : KeepY b S x z := ⟨Nat.le_trans h.size k.size, fun i cs T fr a b c d => k.block i cs T fr (h.block i cs T fr a b c d) b c d, k.os.trans h.os, k.tape.trans h.tape, k.output.trans h.output, fun i hS hi hb => (k.low i hS (Nat.lt_of_lt_of_le hi h.size) hb).trans (h.low i hS hi hb)⟩
theorem KeepY.of_below {b S : Nat} {w w' : World} (h : Below w.heap.size w w') : KeepY b S w w' := ⟨h.size, fun k _ _ _ hk _ _ _ => by rw [h.block k (lt_of_block hk)]; exact hk, h.os, h.tape, h.output, fun k _ hk _ => h.block k hk⟩
theorem KeepY.stay {b S : Nat} {T : TypeId} {B : Nat} {w w' : World} (h : KeepY b S w w') (h1 : T ≠ 193) (h2 : T ≠ 133) (h3 : T ≠ 152) : Stay T B w w' := fun k cs fr _ a => h.block k cs T fr a h1 h2 h3
theorem PP.keepY {w w' : World} {p b S b' S' : Nat} (h : PP w p b S) (hk : KeepY b' S' w w') : PP w' p b S := hk.block p _ _ _ h (by decide) (by decide) (by decide)
theorem KeepY.alloc {b S : Nat} {x y : World} (h : KeepY b S x y) (o : Obj) : KeepY b S x (y.alloc o) := h.trans (KeepY.of_below ((Below.refl _ _).alloc (Nat.le_refl _) _))
theorem KeepY.set {b S : Nat} {x y : World} {F : Nat} {cs : Array Value} {T : TypeId} {fr : Nat × Nat} (h : KeepY b S x y) (hF : y.heap[F]? = some (.cells cs T fr)) (hT : T = 193 ∨ T = 133 ∨ T = 152) (hFS : S ≤ F) (i : Nat) (v : Value) : KeepY b S x (y.setCell ⟨F, i, none⟩ v) :=
  h.trans ⟨by simp [World.setCell], fun k c T' f hk h1 h2 h3 => by
    rw [Below.heap_setCell _ _ _ _ (fun e => by subst e; rw [hF] at hk; cases hk; rcases hT with e | e | e <;> simp_all)]; exact hk, rfl, rfl, rfl, fun k hS _ _ => Below.heap_setCell _ _ _ _ (fun e => by have e2 : k = F := e; omega)⟩
theorem KeepY.grown {b S : Nat} {x y z : World} {row : Option Nat} {base size n : Nat} {v : Value} {xs : List Value} (h : KeepY b S x y) (hg : y.grownBy z row) (ho : y.ownsRow base 152 size v n xs) (hr : row = v.ownBlock) (hbase : S ≤ base) : KeepY b S x z :=
  h.trans ⟨hg.size, fun k c T' f hk h1 h2 h3 => by
    rw [hg.block k (lt_of_block hk) (by rw [hr]; exact own_far ho hk h3)]; exact hk, hg.os, hg.tape, hg.output, fun k hS hk _ => hg.block k hk (fun e => by rw [hr] at e; have := (ho.lt k e.symm).1; omega)⟩
theorem KeepY.drew {b S : Nat} {x y : World} (h : KeepY b S x y) : KeepY b S x y.drew := ⟨h.size, h.block, h.os, h.tape, h.output, h.low⟩
/-- the schema's block -/
def SC (w : World) (S : Nat) (a b c d e : Value) : Prop := w.heap[S]? = some (.cells #[a, b, c, d, e] 133 (0, 0))
theorem SC.keep {w w' : World} {S F : Nat} {a b c d e : Value} (h : SC w S a b c d e) (hk : Keep F w w') (hF : S ≠ F) : SC w' S a b c d e := hk.at h hF
theorem Tryz.info152 : (Tryz.prog.info? 152).map (fun i => (i.zero, i.size, i.bytes)) = some (some (.agg #[.string ⟨#[]⟩]), 1, 16) := by kernel_rfl
set_option maxHeartbeats 4000000 in
set_option maxRecDepth 100000 in
theorem readTypeName_any (w : World) (p b S G : Nat) (s : St) (vR vO vI vU vN : Value) (names : List ByteArray) (hP : PP w p b S) (h : PS w b G s) (hS : SC w S vR vO vI vU vN) (hN : w.ownsRow S 152 1 vN names.length (strsV names)) (hbS : b < S) (hGS : G < S) (hnl : names.length ≤ 100000) :
    Calls Tryz.prog 131 #[.pointer (some ⟨p, 0, none⟩)] w fun e w' => ∃ vN', e = .returned (.agg #[.string (nm s)]) ∧ PS w' b G (nmT s) ∧ PP w' p b S ∧ SC w' S vR vO vI vU vN' ∧ w'.ownsRow S 152 1 vN' (names.length + 1) (strsV (names ++ [nm s])) ∧ KeepY b S w w' := by
  obtain ⟨i0, hi, hz0, hz1, hz2⟩ := info_parts Tryz.info152
  have hSl := lt_of_block hS
  have HKY := hide (fun (w' : World) (hk : Keep b w w') => (KeepY.of_keep hk h.ty.choose_spec : KeepY b S w w'))
  have HSTAY := hide (fun (w' : World) (hk : Keep b w w') => h.stay (T := 152) (B := S) hk)
  obtain ⟨aN, cN, rfl⟩ := own_slice hN
  have HS0 := hide hS
  have HO0 := hide hN
  have hrw : ∀ k, (Value.slice aN names.length cN).ownBlock = some k → S ≤ k ∧ k < w.heap.size := fun k hk => hN.lt k hk
  have hpS : p ≠ S := hP.ne hS (by decide)
  clear hS hN
  have hlt := h.lt
  have hgl := h.glt
  have hpl := hP.lt
  have H0 := hide h
  have HP0 := hide hP
  have HK0 := hide (Keep.refl b w)
  have c0 := hP.c0
  clear h hP
  have H1 := hide (H0.out.alloc (.cells #[.string ⟨#[]⟩] 152))
  have HP1 := hide (HP0.out.alloc (.cells #[.string ⟨#[]⟩] 152))
  have HK1 := hide (HK0.out.alloc (.cells #[.string ⟨#[]⟩] 152))
  have HN1R := hide (show (w.alloc (.cells #[.string ⟨#[]⟩] 152)).heap[w.heap.size]? = some (.cells #[.string ⟨#[]⟩] 152 (0, 0)) from heap_alloc_new _ _)
  clear H0 HP0 HK0
  have c1 := HP1.out.c0
  have hc := readNamed_any (w.alloc (.cells #[.string ⟨#[]⟩] 152)) p b S G s HP1.out H1.out
  generalize nm s = n at *
  generalize nmT s = s1 at *
  go_enter Tryz.func131, Tryz.ntmps131
  go_wp2_with fail
  refine hc.mono ?_
  clear hc
  rintro e w2 ⟨rfl, h2, k2⟩
  have HP2 := hide (HP1.out.keep H1.out k2)
  have HK2 := hide (HK1.out.trans k2)
  have HN2R := hide (k2.at HN1R.out (by omega))
  have z2R := lt_of_block HN2R.out
  have H2 := hide (show PS w2 b G s1 from h2)
  have c2 := HP2.out.c0
  have zw2 := HK2.out.size
  have zp2 := HP2.out.lt
  have zb2 := H2.out.lt
  clear H1 HP1 HK1 HN1R h2
  have HS1 := hide (HK2.out.at HS0.out (by omega))
  have HO1 := hide (ownsRow_stay HO0.out (HSTAY.out _ HK2.out))
  have HY1 := hide (HKY.out _ HK2.out)
  clear HS0 HO0 HKY HSTAY k2
  have cp1 := HP2.out.c1
  have dS : w2.cell? ⟨S, 4, none⟩ = some (.slice aN names.length cN) := cell_of_block HS1.out 4
  have fS := frozen_of_block HS1.out 4
  have zS := lt_of_block HS1.out
  have hloS : Option.some S ≠ (Value.slice aN names.length cN).ownBlock := own_far HO1.out HS1.out (by decide)
  have hlop : Option.some p ≠ (Value.slice aN names.length cN).ownBlock := own_far HO1.out HP2.out (by decide)
  have hlob : Option.some b ≠ (Value.slice aN names.length cN).ownBlock := own_far HO1.out H2.out.ty.choose_spec (by decide)
  have hO1 := HO1.out
  go_wp2_with fail
  have zwW : w.heap.size < w2.heap.size := by omega
  have nSn0 : ¬ S = w2.heap.size := by omega
  have npS0 : ¬ S = p := by omega
  go_region_law (first | (refine step_append_lies _ (by rfl) _ _ _ (by rfl) S 152 i0 _ 1 16 Tryz.underlying131 hi hz0 hz1 hz2 rfl (by decide) _ _ _ (by rfl) (((hO1.alloc _).alloc _).drew) ⟨w2.heap.size + 1, 0, none⟩ 1 1 [.string n] (by rfl) (by rfl) (cells_new' _ _ _ _ (by simp)) (fun u hu => by simp at hu; subst hu; rfl) (by decide) (by unfold maxLen; omega) (by omega) (by simp; omega) (w2.heap.size + 2) (by simp) ?_; intro g cap w5 hown5 hgrow hat hg5; have e5 : w5.cell? ⟨S, 4, none⟩ = some (.slice aN names.length cN) := (hgrow.cell_far ⟨S, 4, none⟩ (by simp; omega) hloS).trans ((two_below w2 _ _).drew.cell (show S < w2.heap.size from zS) |>.trans dS); have p5 : w5.cell? ⟨p, 1, none⟩ = some (.pointer (some ⟨S, 0, none⟩)) := (hgrow.cell_far ⟨p, 1, none⟩ (by simp; omega) hlop).trans ((two_below w2 _ _).drew.cell (show p < w2.heap.size by omega) |>.trans cp1); have f5 : w5.frozen? ⟨S, 4, none⟩ = false := (hgrow.frozen_far ⟨S, 4, none⟩ (by simp; omega) hloS).trans ((two_below w2 _ _).drew.frozen (show S < w2.heap.size from zS) |>.trans fS); have n5 : w5.cell? ⟨w2.heap.size, 0, none⟩ = some (.string n) := (hgrow.cell_far ⟨w2.heap.size, 0, none⟩ (by simp; omega) (fun e => by have := (hrw w2.heap.size e.symm).2; omega)).trans (cell_of_block (w := (((w2.alloc (.cells #[.string n] 152)).alloc (.cells #[.string n] 152)).drew)) (two_R _ _ _) 0)))
  all_goals (
    have V5 := (two_below w2 (.cells #[.string n] 152 (0, 0)) (.cells #[.string n] 152 (0, 0))).drew
    have g5S : w5.heap[S]? = some (.cells #[vR, vO, vI, vU, .slice aN names.length cN] 133 (0, 0)) := (hgrow.block S (by simp; omega) hloS).trans ((V5.block S zS).trans HS1.out)
    have g5n : w5.heap[w2.heap.size]? = some (.cells #[.string n] 152 (0, 0)) := (hgrow.block _ (by simp; omega) (fun e => by have := (hrw _ e.symm).2; omega)).trans (two_R _ _ _)
    have g5R : w5.heap[w.heap.size]? = some (.cells #[.string ⟨#[]⟩] 152 (0, 0)) := (hgrow.block _ (by simp; omega) (fun e => by have := (hrw _ e.symm).2; omega)).trans ((V5.block _ zwW).trans HN2R.out)
    have c5n : w5.cell? ⟨w2.heap.size, 0, none⟩ = some (.string n) := cell_of_block g5n 0
    have c5R : w5.cell? ⟨w.heap.size, 0, none⟩ = some (.string ⟨#[]⟩) := cell_of_block g5R 0
    have f5R := frozen_of_block g5R 0
    have z5R := lt_of_block g5R
    have z5n := lt_of_block g5n
    have nSR : S ≠ w.heap.size := by omega
    have nSn : S ≠ w2.heap.size := by omega
    have gS := ((((H2.out.below V5).grown' hgrow hlob (fun e => by have := (hrw G e.symm).1; omega)).set (F := S) (by omega) (by omega) 4 (.slice (some ⟨g, 0, none⟩) (names.length + 1) cap)).set (F := w.heap.size) (by omega) (by omega) 0 (.string n))
    have gP := ((((HP2.out.below V5).grown' hgrow hlop).set g5S (by decide) 4 (.slice (some ⟨g, 0, none⟩) (names.length + 1) cap)).set (set_other_at g5R (show w.heap.size ≠ S by omega) 4 (.slice (some ⟨g, 0, none⟩) (names.length + 1) cap)) (by decide) 0 (.string n))
    have gC : SC ((w5.setCell ⟨S, 4, none⟩ (.slice (some ⟨g, 0, none⟩) (names.length + 1) cap)).setCell ⟨w.heap.size, 0, none⟩ (.string n)) S vR vO vI vU (.slice (some ⟨g, 0, none⟩) (names.length + 1) cap) := set_other_at (setCell_block g5S 4 (.slice (some ⟨g, 0, none⟩) (names.length + 1) cap)) nSR 0 (.string n)
    have gY := ((((HY1.out.alloc _).alloc _).drew.grown hgrow (((HO1.out.alloc _).alloc _).drew) rfl (Nat.le_refl _)).set g5S (by decide) (Nat.le_refl _) 4 (.slice (some ⟨g, 0, none⟩) (names.length + 1) cap)).set (set_other_at g5R (show w.heap.size ≠ S by omega) 4 (.slice (some ⟨g, 0, none⟩) (names.length + 1) cap)) (by decide) (by omega) 0 (.string n)
    have hgR : g ≠ w.heap.size := by
      rcases hat with e | e
      · have := (hrw g e).2; omega
      · omega
    have hgS : g ≠ S := fun e => by
      rcases hown5.2 with ⟨y, _⟩ | ⟨g', cap', cur', hv', _, hh', _⟩
      · exact absurd y (by simp)
      · cases hv'; rw [e, g5S] at hh'; cases hh'
    have gO := ownsRow_of_block (ownsRow_of_block hown5 (w' := w5.setCell ⟨S, 4, none⟩ (.slice (some ⟨g, 0, none⟩) (names.length + 1) cap)) (fun k hk _ => Below.heap_setCell _ _ _ _ (by cases hk; exact hgS))) (w' := (w5.setCell ⟨S, 4, none⟩ (.slice (some ⟨g, 0, none⟩) (names.length + 1) cap)).setCell ⟨w.heap.size, 0, none⟩ (.string n)) (fun k hk _ => Below.heap_setCell _ _ _ _ (by cases hk; exact hgR))
    have HX := hide (And.intro gS (And.intro gP (And.intro gC (And.intro gO gY))))
    clear gS gP gC gO gY hown5 hgrow V5 HY1 hO1 HO1 g5S g5n g5R
    go_wp2_with fail
    exact bodyPost_ret (v := .agg #[.string n]) (by simp [results, Tryz.results131, go_sem, *]) rfl ⟨_, rfl, HX.out.1, HX.out.2.1, HX.out.2.2.1, by rw [strsV_snoc]; exact HX.out.2.2.2.1, HX.out.2.2.2.2⟩)
end Go.Proofs.YtpggfgjongkihaaGreat
namespace Go.Proofs.YtpggfgjongkihaaGreat
open Go.RowKit
attribute [local go_sem ↓] Go.wp_at_zero Go.wp_at_succ
abbrev Leaf := Bool × ByteArray
/-- a rule in memory: its leaves, in order -/
inductive RuAt (w : World) (Q : Nat → Prop) : Value → List Leaf → Prop
  | is (k : Nat) (n : ByteArray) (a c d e : Value) : Q k → w.heap[k]? = some (.cells #[.string n, .int .i64 4, a, c, d, e] 216 (0, 0)) → RuAt w Q (.pointer (some ⟨k, 0, none⟩)) [(true, n)]
  | eq (k : Nat) (n : ByteArray) (a c d e : Value) : Q k → w.heap[k]? = some (.cells #[.string n, .int .i64 5, a, c, d, e] 216 (0, 0)) → RuAt w Q (.pointer (some ⟨k, 0, none⟩)) [(false, n)]
  | node (k : Nat) (c : Nat) (n : ByteArray) (v x y z : Value) (vs : List Value) (ls : List (List Leaf)) : Q k → c < 4 → w.heap[k]? = some (.cells #[.string n, .int .i64 c, v, x, y, z] 216 (0, 0)) → w.ownsRow 0 161 1 v vs.length vs → (∀ g, v.ownBlock = some g → Q g) → vs.length ≤ 802 → vs.length = ls.length → (∀ (j : Nat) (u : Value) (l : List Leaf), vs[j]? = some u → ls[j]? = some l → RuAt w Q u l) → RuAt w Q (.pointer (some ⟨k, 0, none⟩)) ls.flatten
theorem RuAt.ptr {w : World} {Q : Nat → Prop} {v : Value} {l : List Leaf} (h : RuAt w Q v l) : ∃ k, v = .pointer (some ⟨k, 0, none⟩) := by cases h <;> exact ⟨_, rfl⟩
theorem RuAt.imp {w : World} {Q R : Nat → Prop} (hq : ∀ k, Q k → R k) {v : Value} {l : List Leaf} (h : RuAt w Q v l) : RuAt w R v l := by
  induction h with
  | is k n a c d e h1 h2 => exact .is k n a c d e (hq k h1) h2
  | eq k n a c d e h1 h2 => exact .eq k n a c d e (hq k h1) h2
  | node k c n v x y z vs ls h1 h2 h3 h4 h5 h6 h7 _ ih => exact .node k c n v x y z vs ls (hq k h1) h2 h3 h4 (fun g hg => hq g (h5 g hg)) h6 h7 ih
theorem RuAt.lt {w : World} {Q : Nat → Prop} {v : Value} {l : List Leaf} (h : RuAt w Q v l) : RuAt w (fun k => Q k ∧ k < w.heap.size) v l := by
  induction h with
  | is k n a c d e h1 h2 => exact .is k n a c d e ⟨h1, lt_of_block h2⟩ h2
  | eq k n a c d e h1 h2 => exact .eq k n a c d e ⟨h1, lt_of_block h2⟩ h2
  | node k c n v x y z vs ls h1 h2 h3 h4 h5 h6 h7 _ ih => exact .node k c n v x y z vs ls ⟨h1, lt_of_block h3⟩ h2 h3 h4 (fun g hg => ⟨h5 g hg, (h4.lt g hg).2⟩) h6 h7 ih
theorem RuAt.move {w w' : World} {Q : Nat → Prop} (hm : ∀ (k : Nat) (cs : Array Value) (T : TypeId) (fr : Nat × Nat), Q k → (T = 216 ∨ T = 161) → w.heap[k]? = some (.cells cs T fr) → w'.heap[k]? = some (.cells cs T fr)) {v : Value} {l : List Leaf} (h : RuAt w Q v l) : RuAt w' Q v l := by
  induction h with
  | is k n a c d e h1 h2 => exact .is k n a c d e h1 (hm k _ _ _ h1 (Or.inl rfl) h2)
  | eq k n a c d e h1 h2 => exact .eq k n a c d e h1 (hm k _ _ _ h1 (Or.inl rfl) h2)
  | node k c n v x y z vs ls h1 h2 h3 h4 h5 h6 h7 _ ih =>
    refine .node k c n v x y z vs ls h1 h2 (hm k _ _ _ h1 (Or.inl rfl) h3) ⟨h4.1, ?_⟩ h5 h6 h7 ih
    rcases h4.2 with q | ⟨g, cap, cur, hv, hg, hh, r⟩
    · exact Or.inl q
    · exact Or.inr ⟨g, cap, cur, hv, hg, hm g _ _ _ (h5 g (by rw [hv]; rfl)) (Or.inr rfl) hh, r⟩
theorem RuAt.stays {w w' : World} {B : Nat} (h1 : Stay 216 B w w') (h2 : Stay 161 B w w') {v : Value} {l : List Leaf} (h : RuAt w (fun k => B ≤ k) v l) : RuAt w' (fun k => B ≤ k) v l :=
  h.move (fun k cs T fr hk hT hb => by 
    rcases hT with e | e
    · subst e; exact h1 k cs fr hk hb
    · subst e; exact h2 k cs fr hk hb)
theorem RuAt.keep {w w' : World} {Q : Nat → Prop} {b G : Nat} {s : St} (hs : PS w b G s) (hk : Keep b w w') {v : Value} {l : List Leaf} (h : RuAt w Q v l) : RuAt w' Q v l :=
  h.move (fun k cs T fr _ hT hb => by
    obtain ⟨c, hc⟩ := hs.ty
    refine hk.at hb (fun e => ?_)
    subst e; rw [hc] at hb; cases hb; rcases hT with e | e <;> cases e)
def chainF (word : ByteArray) (part : St → List Leaf × St) : Nat → List (List Leaf) → St → List (List Leaf) × St
  | 0, acc, s => (acc, s)
  | f + 1, acc, s => if isW s word = true then chainF word part f (acc ++ [(part (tl s)).1]) (part (tl s)).2 else (acc, s)
def chain (word : ByteArray) (part : St → List Leaf × St) (s : St) : List Leaf × St :=
  ((chainF word part 801 [(part s).1] (part s).2).1.flatten, (chainF word part 801 [(part s).1] (part s).2).2)
theorem chainF_stop (word : ByteArray) (part : St → List Leaf × St) (f : Nat) (acc : List (List Leaf)) (s : St) (h : isW s word = false) : chainF word part f acc s = (acc, s) := by
  cases f with
  | zero => rfl
  | succ f => rw [chainF, if_neg (by rw [h]; simp)]
theorem ln_isW (s : St) (x : ByteArray) (h : isW s x = true) : ln (tl s) < ln s := by
  refine ln_tl_lt s 1 (by decide) ?_
  unfold isW at h; unfold isK
  exact (Bool.and_eq_true _ _ ▸ h).1
theorem ln_chainF (word : ByteArray) (part : St → List Leaf × St) (hp : ∀ s, ln (part s).2 ≤ ln s) : ∀ (f : Nat) (acc : List (List Leaf)) (s : St), ln (chainF word part f acc s).2 ≤ ln s
  | 0, _, _ => Nat.le_refl _
  | f + 1, acc, s => by
    rw [chainF]
    split
    · exact Nat.le_trans (ln_chainF word part hp f _ _) (Nat.le_trans (hp _) (ln_tl_le s))
    · exact Nat.le_refl _
theorem ln_chain (word : ByteArray) (part : St → List Leaf × St) (hp : ∀ s, ln (part s).2 ≤ ln s) (s : St) : ln (chain word part s).2 ≤ ln s :=
  Nat.le_trans (ln_chainF word part hp _ _ _) (hp s)
theorem Tryz.info161 : (Tryz.prog.info? 161).map (fun i => (i.zero, i.size, i.bytes)) = some (some (.pointer none), 1, 8) := by kernel_rfl
/-- what a part of a chain does -/
def PartC (PF : Nat) (p b S G n : Nat) (part : St → List Leaf × St) : Prop := ∀ (W : World) (s : St), ln s ≤ n → PP W p b S → PS W b G s → Calls Tryz.prog PF #[.pointer (some ⟨p, 0, none⟩)] W fun e w' => ∃ u, e = .returned u ∧ RuAt w' (fun k => W.heap.size ≤ k) u (part s).1 ∧ PS w' b G (part s).2 ∧ Keep b W w'
set_option maxHeartbeats 4000000 in
set_option maxRecDepth 100000 in
theorem chain126_any (w : World) (p b S G n : Nat) (part : St → List Leaf × St) (s : St) (hpart : PartC 195 p b S G n part) (hpl0 : ∀ s, ln (part s).2 ≤ ln s) (hl : ln s ≤ n) (_hn : n ≤ 801) (hP : PP w p b S) (h : PS w b G s) :
    Calls Tryz.prog 167 #[.pointer (some ⟨p, 0, none⟩), .int .i64 1, .string ⟨#[97, 110, 100]⟩, .func (Fn.func 195) #[.pointer (some ⟨p, 0, none⟩)] #[]] w fun e w' => ∃ u, e = .returned u ∧ RuAt w' (fun k => w.heap.size ≤ k) u (chain ⟨#[97, 110, 100]⟩ part s).1 ∧ PS w' b G (chain ⟨#[97, 110, 100]⟩ part s).2 ∧ Keep b w w' := by
  obtain ⟨i0, hi, hz0, hz1, hz2⟩ := info_parts Tryz.info161
  have hc0 := hpart w s hl hP h
  have HPART := hide hpart
  have HPL := hide hpl0
  have hlp := hpl0 s
  have HQ := hide (show chain ⟨#[97, 110, 100]⟩ part s = ((chainF ⟨#[97, 110, 100]⟩ part 801 [(part s).1] (part s).2).1.flatten, (chainF ⟨#[97, 110, 100]⟩ part 801 [(part s).1] (part s).2).2) from rfl)
  generalize chain ⟨#[97, 110, 100]⟩ part s = FF at *
  clear hpart hpl0
  generalize (part s).1 = l0 at *
  generalize (part s).2 = s1 at *
  have hlt := h.lt
  have hgl := h.glt
  have hpl := hP.lt
  have H0 := hide h
  have HP0 := hide hP
  have HK0 := hide (Keep.refl b w)
  have c0 := hP.c0
  clear h hP
  go_enter Tryz.func167, Tryz.ntmps167
  go_wp2_with fail
  refine hc0.mono ?_
  clear hc0
  rintro e w1 ⟨u0, rfl, t0, h1, k1⟩
  have HP1 := hide (HP0.out.keep H0.out k1)
  have HK1 := hide (HK0.out.trans k1)
  have H1 := hide (show PS w1 b G s1 from h1)
  have c1 := HP1.out.c0
  have zw1 := HK1.out.size
  have zp1 := HP1.out.lt
  have zb1 := H1.out.lt
  clear H0 HP0 HK0 h1 k1
  obtain ⟨ku0, rfl⟩ := t0.ptr
  have H2 := hide (H1.out.alloc (.cells #[.pointer (some ⟨ku0, 0, none⟩)] 161))
  have HP2 := hide (HP1.out.alloc (.cells #[.pointer (some ⟨ku0, 0, none⟩)] 161))
  have HK2 := hide (HK1.out.alloc (.cells #[.pointer (some ⟨ku0, 0, none⟩)] 161))
  have HN2A := hide (show (w1.alloc (.cells #[.pointer (some ⟨ku0, 0, none⟩)] 161)).heap[w1.heap.size]? = some (.cells #[.pointer (some ⟨ku0, 0, none⟩)] 161 (0, 0)) from heap_alloc_new _ _)
  clear H1 HP1 HK1
  have c2 := HP2.out.c0
  have H3 := hide (H2.out.alloc (.cells #[.string ⟨#[]⟩, .int .i64 1, .slice (some ⟨w1.heap.size, 0, none⟩) 1 1, .int .i64 0, .int .i64 0, .string ⟨#[]⟩] 216))
  have HP3 := hide (HP2.out.alloc (.cells #[.string ⟨#[]⟩, .int .i64 1, .slice (some ⟨w1.heap.size, 0, none⟩) 1 1, .int .i64 0, .int .i64 0, .string ⟨#[]⟩] 216))
  have HK3 := hide (HK2.out.alloc (.cells #[.string ⟨#[]⟩, .int .i64 1, .slice (some ⟨w1.heap.size, 0, none⟩) 1 1, .int .i64 0, .int .i64 0, .string ⟨#[]⟩] 216))
  have HN3A := hide (show ((w1.alloc (.cells #[.pointer (some ⟨ku0, 0, none⟩)] 161)).alloc (.cells #[.string ⟨#[]⟩, .int .i64 1, .slice (some ⟨w1.heap.size, 0, none⟩) 1 1, .int .i64 0, .int .i64 0, .string ⟨#[]⟩] 216)).heap[w1.heap.size]? = some (.cells #[.pointer (some ⟨ku0, 0, none⟩)] 161 (0, 0)) from by rw [alloc_other _ _ _ (lt_of_block HN2A.out)]; exact HN2A.out)
  have HN3N := hide (show ((w1.alloc (.cells #[.pointer (some ⟨ku0, 0, none⟩)] 161)).alloc (.cells #[.string ⟨#[]⟩, .int .i64 1, .slice (some ⟨w1.heap.size, 0, none⟩) 1 1, .int .i64 0, .int .i64 0, .string ⟨#[]⟩] 216)).heap[w1.heap.size + 1]? = some (.cells #[.string ⟨#[]⟩, .int .i64 1, .slice (some ⟨w1.heap.size, 0, none⟩) 1 1, .int .i64 0, .int .i64 0, .string ⟨#[]⟩] 216 (0, 0)) from two_F _ _ _)
  clear H2 HP2 HK2 HN2A
  have c3 := HP3.out.c0
  go_wp2_with fail
  have h0 := H3.out
  have hP0 := HP3.out
  have hN0 := HN3N.out
  have hK0 := HK3.out
  have hl0 := h0.len
  have hB0 := two_below w1 (.cells #[.pointer (some ⟨ku0, 0, none⟩)] 161 (0, 0)) (.cells #[.string ⟨#[]⟩, .int .i64 1, .slice (some ⟨w1.heap.size, 0, none⟩) 1 1, .int .i64 0, .int .i64 0, .string ⟨#[]⟩] 216 (0, 0))
  have hO0 : ((w1.alloc (.cells #[.pointer (some ⟨ku0, 0, none⟩)] 161)).alloc (.cells #[.string ⟨#[]⟩, .int .i64 1, .slice (some ⟨w1.heap.size, 0, none⟩) 1 1, .int .i64 0, .int .i64 0, .string ⟨#[]⟩] 216)).ownsRow w.heap.size 161 1 (.slice (some ⟨w1.heap.size, 0, none⟩) 1 1) [Value.pointer (some ⟨ku0, 0, none⟩)].length [Value.pointer (some ⟨ku0, 0, none⟩)] := ⟨rfl, Or.inr ⟨_, 1, _, rfl, by omega, HN3A.out, Nat.le_refl _, by decide, rfl, rfl⟩⟩
  have hT0 : ∀ (j : Nat) u l, [Value.pointer (some ⟨ku0, 0, none⟩)][j]? = some u → [l0][j]? = some l → RuAt ((w1.alloc (.cells #[.pointer (some ⟨ku0, 0, none⟩)] 161)).alloc (.cells #[.string ⟨#[]⟩, .int .i64 1, .slice (some ⟨w1.heap.size, 0, none⟩) 1 1, .int .i64 0, .int .i64 0, .string ⟨#[]⟩] 216)) (fun k => w.heap.size ≤ k ∧ k ≠ w1.heap.size + 1 ∧ some k ≠ (Value.slice (some ⟨w1.heap.size, 0, none⟩) 1 1).ownBlock) u l := by
    intro j u l hu hl
    cases j with
    | succ j => simp at hu
    | zero =>
      simp only [List.getElem?_cons_zero, Option.some.injEq] at hu hl
      subst hu; subst hl
      refine (t0.lt.move (fun k cs T fr hk _ hb => (hB0.block k hk.2).trans hb)).imp (fun k hk => ⟨hk.1, by omega, fun e => ?_⟩)
      have e3 := Option.some.inj (show some k = some w1.heap.size from e)
      omega
  clear H3 HP3 HN3N HN3A HK3 t0 hB0
  generalize ((w1.alloc (.cells #[.pointer (some ⟨ku0, 0, none⟩)] 161)).alloc (.cells #[.string ⟨#[]⟩, .int .i64 1, .slice (some ⟨w1.heap.size, 0, none⟩) 1 1, .int .i64 0, .int .i64 0, .string ⟨#[]⟩] 216)) = wl at *
  have zN : w.heap.size ≤ w1.heap.size := zw1
  go_loopg [] (ln s1) (fun k wr => ∃ (vs : List Value) (ls : List (List Leaf)) (v : Value) (s' : St) (f : Nat), ln s' ≤ k ∧ ln s' ≤ f ∧ ln s' ≤ n ∧ PS wr b G s' ∧ PP wr p b S ∧ wr.heap[w1.heap.size + 1]? = some (.cells #[.string ⟨#[]⟩, .int .i64 1, v, .int .i64 0, .int .i64 0, .string ⟨#[]⟩] 216 (0, 0)) ∧ wr.ownsRow w.heap.size 161 1 v vs.length vs ∧ vs.length = ls.length ∧ (∀ (j : Nat) u l, vs[j]? = some u → ls[j]? = some l → RuAt wr (fun k => w.heap.size ≤ k ∧ k ≠ w1.heap.size + 1 ∧ some k ≠ v.ownBlock) u l) ∧ vs.length + ln s' ≤ 802 ∧ Keep b w wr ∧ chainF ⟨#[97, 110, 100]⟩ part 801 [l0] s1 = chainF ⟨#[97, 110, 100]⟩ part f ls s')
  case atStart => exact ⟨_, [l0], _, s1, 801, Nat.le_refl _, hl0, by omega, h0, hP0, hN0, hO0, rfl, hT0, by simp; omega, hK0, rfl⟩
  case round =>
    clear h0 hP0 hN0 hO0 hT0 hK0 hl0
    obtain ⟨vs, ls, v, s', f, hlk, hlf, hln, h1, hP1, hN1, hO1, hvl, hT1, hvn, hK1, hrel⟩ := hrel
    obtain ⟨aI, cI, rfl⟩ := own_slice hO1
    have HVL := hide hvl
    clear hvl
    have HM := hide hrel
    have H1 := hide h1
    have HP1 := hide hP1
    have HN1 := hide hN1
    have HO1 := hide hO1
    have HT1 := hide hT1
    have HK1 := hide hK1
    have c1 := hP1.c0
    have zN1 := lt_of_block hN1
    have zp1 := hP1.lt
    have hc := takeW_any wr b G s' ⟨#[97, 110, 100]⟩ h1
    clear h1 hP1 hN1 hO1 hT1 hK1 hrel
    cases hx : isW s' ⟨#[97, 110, 100]⟩
    · rw [hx] at hc
      have HE := hide (show FF = (ls.flatten, s') from by rw [HQ.out, HM.out, chainF_stop _ _ _ _ _ hx])
      clear hx HM HQ
      go_wp2_with fail
      refine hc.mono ?_
      clear hc
      rintro e wA ⟨rfl, h2, k2⟩
      have hN2 := k2.at HN1.out (by omega)
      have hO2 := ownsRow_stay HO1.out (H1.out.stay k2)
      have HX := hide (show RuAt wA (fun k => w.heap.size ≤ k) (.pointer (some ⟨w1.heap.size + 1, 0, none⟩)) ls.flatten from
        .node (w1.heap.size + 1) 1 ⟨#[]⟩ _ _ _ _ vs ls (by omega) (by decide) hN2 (ownsRow_lower hO2 (Nat.zero_le _)) (fun g hg => (hO2.lt g hg).1) (by omega) HVL.out (fun j u l hu hl => (RuAt.keep H1.out k2 (HT1.out j u l hu hl)).imp (fun k hk => hk.1)))
      have HK2 := hide (HK1.out.trans k2)
      have H2 := hide h2
      clear h2 k2 hN2 hO2 H1 HP1 HN1 HO1 HT1 HK1
      go_wp2_with fail
      go_ret
      exact ⟨_, rfl, by rw [HE.out]; exact HX.out, by rw [HE.out]; exact H2.out, HK2.out⟩
    · rw [hx] at hc
      have hlt' := ln_isW s' _ hx
      obtain ⟨f', rfl⟩ : ∃ f', f = f' + 1 := ⟨f - 1, by omega⟩
      have HE := hide (show chainF ⟨#[97, 110, 100]⟩ part 801 [l0] s1 = chainF ⟨#[97, 110, 100]⟩ part f' (ls ++ [(part (tl s')).1]) (part (tl s')).2 from by rw [HM.out, chainF, if_pos hx])
      have hlm := HPL.out (tl s')
      have hpc := fun W hP h => HPART.out W (tl s') (by omega) hP h
      clear hx HM
      generalize (part (tl s')).1 = lv at *
      generalize (part (tl s')).2 = s2 at *
      go_wp2_with fail
      refine hc.mono ?_
      clear hc
      rintro e wA ⟨rfl, h2, k2⟩
      have HN2 := hide (k2.at HN1.out (by omega))
      have HO2 := hide (ownsRow_stay HO1.out (H1.out.stay k2))
      have HT2 := hide (fun (j : Nat) u l hu hl => RuAt.keep H1.out k2 (HT1.out j u l hu hl))
      have HK2 := hide (HK1.out.trans k2)
      have HP2 := hide (HP1.out.keep H1.out k2)
      have H2 := hide (show PS wA b G (tl s') from h2)
      clear h2 k2 H1 HP1 HN1 HO1 HT1 HK1
      have dA : wA.cell? ⟨w1.heap.size + 1, 2, none⟩ = some (Value.slice aI vs.length cI) := cell_of_block HN2.out 2
      have fA := frozen_of_block HN2.out 2
      have zA : w.heap.size ≤ wA.heap.size := HK2.out.size
      have cA := HP2.out.c0
      have zpA := HP2.out.lt
      have zFA := lt_of_block HN2.out
      have HC := hide (show ∀ W, Below wA.heap.size wA W → Calls Tryz.prog 195 #[.pointer (some ⟨p, 0, none⟩)] W fun e w' => ∃ ku, e = .returned (.pointer (some ⟨ku, 0, none⟩)) ∧ PS w' b G s2 ∧ Keep b wA w' ∧ w'.cell? ⟨p, 0, none⟩ = some (.pointer (some ⟨b, 0, none⟩)) ∧ w'.cell? ⟨w1.heap.size + 1, 2, none⟩ = some (Value.slice aI vs.length cI) ∧ w'.ownsRow w.heap.size 161 1 (Value.slice aI vs.length cI) vs.length vs ∧ w'.frozen? ⟨w1.heap.size + 1, 2, none⟩ = false ∧ wA.heap.size ≤ w'.heap.size ∧ RuAt w' (fun k => wA.heap.size ≤ k) (.pointer (some ⟨ku, 0, none⟩)) lv from fun W hW => (hpc W (HP2.out.below hW) (H2.out.below hW)).mono (by
        rintro e w' ⟨u, a1, t, a2, a3⟩
        obtain ⟨ku, rfl⟩ := t.ptr
        have a4 := (Keep.of_below (b := b) hW).trans a3
        exact ⟨ku, a1, a2, a4, (HP2.out.keep H2.out a4).c0, cell_of_block (a4.at HN2.out (by omega)) 2, ownsRow_stay HO2.out (H2.out.stay a4), frozen_of_block (a4.at HN2.out (by omega)) 2, a4.size, t.imp (fun k hk => Nat.le_trans hW.size hk)⟩))
      have hrd : ∀ k, (Value.slice aI vs.length cI).ownBlock = some k → w.heap.size ≤ k := fun k hk => (HO2.out.lt k hk).1
      have hloN : Option.some (w1.heap.size + 1) ≠ (Value.slice aI vs.length cI).ownBlock := own_far HO2.out HN2.out (by decide)
      have hlop : Option.some p ≠ (Value.slice aI vs.length cI).ownBlock := own_far HO2.out HP2.out (by decide)
      have hlob : Option.some b ≠ (Value.slice aI vs.length cI).ownBlock := own_far HO2.out H2.out.ty.choose_spec (by decide)
      have hpF : p ≠ w1.heap.size + 1 := HP2.out.ne HN2.out (by decide)
      go_wp2_with fail
      go_region_law (first
        | (refine step_append_lies _ (by rfl) _ _ _ (by rfl) w.heap.size 161 i0 _ 1 8 Tryz.underlying214 hi hz0 hz1 hz2 rfl (by decide) _ _ _ (by rfl) (hO4.alloc _) ⟨wc201.heap.size, 0, none⟩ 1 1 [.pointer (some ⟨ku, 0, none⟩)] (by rfl) (by rfl) (cell_one_new _ _ _) (fun u hu => by simp at hu; subst hu; rfl) (by decide) (by unfold maxLen; omega) (by omega) (by simp; omega) (wc201.heap.size + 1) (by simp) ?_; intro g cap wd201 hown5 hgrow hat hg5; have e5 : wd201.cell? ⟨w1.heap.size + 1, 2, none⟩ = some (Value.slice aI vs.length cI) := (hgrow.cell_far ⟨w1.heap.size + 1, 2, none⟩ (by simp; omega) hloN).trans (by first | exact (((Below.refl wc201.heap.size wc201).alloc (Nat.le_refl _) _).cell (show w1.heap.size + 1 < wc201.heap.size by omega)).trans d4 | exact ((((Below.refl wc201.heap.size wc201).alloc (Nat.le_refl _) _).drew).cell (show w1.heap.size + 1 < wc201.heap.size by omega)).trans d4); have cp5 : wd201.cell? ⟨p, 0, none⟩ = some (.pointer (some ⟨b, 0, none⟩)) := (hgrow.cell_far ⟨p, 0, none⟩ (by simp; omega) hlop).trans (by first | exact (((Below.refl wc201.heap.size wc201).alloc (Nat.le_refl _) _).cell (show p < wc201.heap.size by omega)).trans c4 | exact ((((Below.refl wc201.heap.size wc201).alloc (Nat.le_refl _) _).drew).cell (show p < wc201.heap.size by omega)).trans c4); have f5 : wd201.frozen? ⟨w1.heap.size + 1, 2, none⟩ = false := (hgrow.frozen_far ⟨w1.heap.size + 1, 2, none⟩ (by simp; omega) hloN).trans (by first | exact (((Below.refl wc201.heap.size wc201).alloc (Nat.le_refl _) _).frozen (show w1.heap.size + 1 < wc201.heap.size by omega)).trans f4 | exact ((((Below.refl wc201.heap.size wc201).alloc (Nat.le_refl _) _).drew).frozen (show w1.heap.size + 1 < wc201.heap.size by omega)).trans f4))
        | (go_simp; go_at_call 195; refine (HC.out _ ?_).mono ?_; (first | exact (Below.refl _ _).drew | exact Below.refl _ _); rintro e wc201 ⟨ku, rfl, h4, k4, c4, d4, hO4, f4, z4, t4⟩; have n4 : wc201.heap.size ≠ w1.heap.size + 1 := (by omega); have n4' : w1.heap.size + 1 < wc201.heap.size := (by omega); have n4p : p < wc201.heap.size := (by omega)))
      all_goals (
        have h4N := (k4.at HN2.out (by omega))
        have g5N : wd201.heap[w1.heap.size + 1]? = some (.cells #[.string ⟨#[]⟩, .int .i64 1, .slice aI vs.length cI, .int .i64 0, .int .i64 0, .string ⟨#[]⟩] 216 (0, 0)) := (hgrow.block _ (by simp; omega) hloN).trans ((alloc_other _ _ _ (lt_of_block h4N)).trans h4N)
        have hP4 := HP2.out.keep H2.out k4
        have hK4 := HK2.out.trans k4
        have H202 := hide (((h4.alloc _).grown' hgrow hlob (fun e => by have := hrd G e.symm; omega)).set (F := w1.heap.size + 1) (by omega) (by omega) 2 (Value.slice (some ⟨g, 0, none⟩) (vs.length + 1) cap))
        have HP202 := hide (((hP4.alloc _).grown' hgrow hlop).set g5N (by decide) 2 (Value.slice (some ⟨g, 0, none⟩) (vs.length + 1) cap))
        have HK202 := hide (((hK4.alloc _).grown hgrow (fun k hk => by have := hrd k hk; omega)).setNew ⟨w1.heap.size + 1, 2, none⟩ (by simp only []; omega) (Value.slice (some ⟨g, 0, none⟩) (vs.length + 1) cap))
        have HO202 := hide (ownsRow_stay hown5 (Stay.setT (T := 161) (B := w.heap.size) g5N (by decide) 2 (Value.slice (some ⟨g, 0, none⟩) (vs.length + 1) cap)))
        have HN202N := hide (show (wd201.setCell ⟨w1.heap.size + 1, 2, none⟩ (Value.slice (some ⟨g, 0, none⟩) (vs.length + 1) cap)).heap[w1.heap.size + 1]? = some (.cells #[.string ⟨#[]⟩, .int .i64 1, (Value.slice (some ⟨g, 0, none⟩) (vs.length + 1) cap), .int .i64 0, .int .i64 0, .string ⟨#[]⟩] 216 (0, 0)) from setCell_block g5N 2 (Value.slice (some ⟨g, 0, none⟩) (vs.length + 1) cap))
        have hT6 : ∀ (j : Nat) u l, (vs ++ [Value.pointer (some ⟨ku, 0, none⟩)])[j]? = some u → (ls ++ [lv])[j]? = some l → RuAt (wd201.setCell ⟨w1.heap.size + 1, 2, none⟩ (Value.slice (some ⟨g, 0, none⟩) (vs.length + 1) cap)) (fun k => w.heap.size ≤ k ∧ k ≠ w1.heap.size + 1 ∧ some k ≠ (Value.slice (some ⟨g, 0, none⟩) (vs.length + 1) cap).ownBlock) u l := by
          have hvl := HVL.out
          have step : ∀ {u : Value} {l : List Leaf}, RuAt wc201 (fun k => w.heap.size ≤ k ∧ k ≠ w1.heap.size + 1 ∧ some k ≠ (Value.slice aI vs.length cI).ownBlock) u l → RuAt (wd201.setCell ⟨w1.heap.size + 1, 2, none⟩ (Value.slice (some ⟨g, 0, none⟩) (vs.length + 1) cap)) (fun k => w.heap.size ≤ k ∧ k ≠ w1.heap.size + 1 ∧ some k ≠ (Value.slice (some ⟨g, 0, none⟩) (vs.length + 1) cap).ownBlock) u l := by
            intro u l ht
            refine (ht.lt.move (fun k cs T fr hk _ hb => ?_)).imp (fun k hk => ⟨hk.1.1, hk.1.2.1, fun e => ?_⟩)
            · exact set_other_at ((hgrow.block k (by simp; omega) hk.1.2.2).trans ((alloc_other _ _ _ hk.2).trans hb)) hk.1.2.1 _ _
            · have e3 := Option.some.inj (show some k = some g from e)
              rcases hat with e | e
              · exact hk.1.2.2 (by rw [e3, e])
              · omega
          intro j u l hu hl
          by_cases hj : j < vs.length
          · rw [List.getElem?_append_left hj] at hu
            rw [List.getElem?_append_left (by omega)] at hl
            exact step (RuAt.keep H2.out k4 (HT2.out j u l hu hl))
          · have hj' : j = vs.length := by
              have := (List.getElem?_eq_some_iff.1 hu).1
              simp at this; omega
            subst hj'
            rw [List.getElem?_append_right (Nat.le_refl _)] at hu
            rw [List.getElem?_append_right (by omega)] at hl
            simp only [Nat.sub_self, List.getElem?_cons_zero, Option.some.injEq] at hu
            rw [show vs.length - ls.length = 0 by omega] at hl
            simp only [List.getElem?_cons_zero, Option.some.injEq] at hl
            subst hu; subst hl
            exact step (t4.imp (fun k hk => ⟨by omega, by omega, fun e => by have := (HO2.out.lt k e.symm).2; omega⟩))
        have HX := hide (show _ ∧ _ ∧ _ ∧ _ ∧ _ ∧ _ from ⟨H202.out, HP202.out, HN202N.out, HO202.out, hT6, HK202.out⟩)
        clear hT6 hgrow hown5 h4 k4 hO4 t4 H202 HP202 HK202 HO202 HN202N g5N h4N hP4 hK4
        go_wp2_with fail
        go_roundg (ln s2)
        case measure => omega
        case rel => exact ⟨vs ++ [Value.pointer (some ⟨ku, 0, none⟩)], ls ++ [lv], _, s2, f', Nat.le_refl _, by omega, by omega, HX.out.1, HX.out.2.1, HX.out.2.2.1, by rw [List.length_append]; exact HX.out.2.2.2.1, by have := HVL.out; simp; omega, HX.out.2.2.2.2.1, by simp; omega, HX.out.2.2.2.2.2, HE.out⟩)
set_option maxHeartbeats 4000000 in
set_option maxRecDepth 100000 in
theorem chain107_any (w : World) (p b S G n : Nat) (part : St → List Leaf × St) (s : St) (hpart : PartC 168 p b S G n part) (hpl0 : ∀ s, ln (part s).2 ≤ ln s) (hl : ln s ≤ n) (_hn : n ≤ 801) (hP : PP w p b S) (h : PS w b G s) :
    Calls Tryz.prog 167 #[.pointer (some ⟨p, 0, none⟩), .int .i64 0, .string ⟨#[111, 114]⟩, .func (Fn.func 168) #[.pointer (some ⟨p, 0, none⟩)] #[]] w fun e w' => ∃ u, e = .returned u ∧ RuAt w' (fun k => w.heap.size ≤ k) u (chain ⟨#[111, 114]⟩ part s).1 ∧ PS w' b G (chain ⟨#[111, 114]⟩ part s).2 ∧ Keep b w w' := by
  obtain ⟨i0, hi, hz0, hz1, hz2⟩ := info_parts Tryz.info161
  have hc0 := hpart w s hl hP h
  have HPART := hide hpart
  have HPL := hide hpl0
  have hlp := hpl0 s
  have HQ := hide (show chain ⟨#[111, 114]⟩ part s = ((chainF ⟨#[111, 114]⟩ part 801 [(part s).1] (part s).2).1.flatten, (chainF ⟨#[111, 114]⟩ part 801 [(part s).1] (part s).2).2) from rfl)
  generalize chain ⟨#[111, 114]⟩ part s = FF at *
  clear hpart hpl0
  generalize (part s).1 = l0 at *
  generalize (part s).2 = s1 at *
  have hlt := h.lt
  have hgl := h.glt
  have hpl := hP.lt
  have H0 := hide h
  have HP0 := hide hP
  have HK0 := hide (Keep.refl b w)
  have c0 := hP.c0
  clear h hP
  go_enter Tryz.func167, Tryz.ntmps167
  go_wp2_with fail
  refine hc0.mono ?_
  clear hc0
  rintro e w1 ⟨u0, rfl, t0, h1, k1⟩
  have HP1 := hide (HP0.out.keep H0.out k1)
  have HK1 := hide (HK0.out.trans k1)
  have H1 := hide (show PS w1 b G s1 from h1)
  have c1 := HP1.out.c0
  have zw1 := HK1.out.size
  have zp1 := HP1.out.lt
  have zb1 := H1.out.lt
  clear H0 HP0 HK0 h1 k1
  obtain ⟨ku0, rfl⟩ := t0.ptr
  have H2 := hide (H1.out.alloc (.cells #[.pointer (some ⟨ku0, 0, none⟩)] 161))
  have HP2 := hide (HP1.out.alloc (.cells #[.pointer (some ⟨ku0, 0, none⟩)] 161))
  have HK2 := hide (HK1.out.alloc (.cells #[.pointer (some ⟨ku0, 0, none⟩)] 161))
  have HN2A := hide (show (w1.alloc (.cells #[.pointer (some ⟨ku0, 0, none⟩)] 161)).heap[w1.heap.size]? = some (.cells #[.pointer (some ⟨ku0, 0, none⟩)] 161 (0, 0)) from heap_alloc_new _ _)
  clear H1 HP1 HK1
  have c2 := HP2.out.c0
  have H3 := hide (H2.out.alloc (.cells #[.string ⟨#[]⟩, .int .i64 0, .slice (some ⟨w1.heap.size, 0, none⟩) 1 1, .int .i64 0, .int .i64 0, .string ⟨#[]⟩] 216))
  have HP3 := hide (HP2.out.alloc (.cells #[.string ⟨#[]⟩, .int .i64 0, .slice (some ⟨w1.heap.size, 0, none⟩) 1 1, .int .i64 0, .int .i64 0, .string ⟨#[]⟩] 216))
  have HK3 := hide (HK2.out.alloc (.cells #[.string ⟨#[]⟩, .int .i64 0, .slice (some ⟨w1.heap.size, 0, none⟩) 1 1, .int .i64 0, .int .i64 0, .string ⟨#[]⟩] 216))
  have HN3A := hide (show ((w1.alloc (.cells #[.pointer (some ⟨ku0, 0, none⟩)] 161)).alloc (.cells #[.string ⟨#[]⟩, .int .i64 0, .slice (some ⟨w1.heap.size, 0, none⟩) 1 1, .int .i64 0, .int .i64 0, .string ⟨#[]⟩] 216)).heap[w1.heap.size]? = some (.cells #[.pointer (some ⟨ku0, 0, none⟩)] 161 (0, 0)) from by rw [alloc_other _ _ _ (lt_of_block HN2A.out)]; exact HN2A.out)
  have HN3N := hide (show ((w1.alloc (.cells #[.pointer (some ⟨ku0, 0, none⟩)] 161)).alloc (.cells #[.string ⟨#[]⟩, .int .i64 0, .slice (some ⟨w1.heap.size, 0, none⟩) 1 1, .int .i64 0, .int .i64 0, .string ⟨#[]⟩] 216)).heap[w1.heap.size + 1]? = some (.cells #[.string ⟨#[]⟩, .int .i64 0, .slice (some ⟨w1.heap.size, 0, none⟩) 1 1, .int .i64 0, .int .i64 0, .string ⟨#[]⟩] 216 (0, 0)) from two_F _ _ _)
  clear H2 HP2 HK2 HN2A
  have c3 := HP3.out.c0
  go_wp2_with fail
  have h0 := H3.out
  have hP0 := HP3.out
  have hN0 := HN3N.out
  have hK0 := HK3.out
  have hl0 := h0.len
  have hB0 := two_below w1 (.cells #[.pointer (some ⟨ku0, 0, none⟩)] 161 (0, 0)) (.cells #[.string ⟨#[]⟩, .int .i64 0, .slice (some ⟨w1.heap.size, 0, none⟩) 1 1, .int .i64 0, .int .i64 0, .string ⟨#[]⟩] 216 (0, 0))
  have hO0 : ((w1.alloc (.cells #[.pointer (some ⟨ku0, 0, none⟩)] 161)).alloc (.cells #[.string ⟨#[]⟩, .int .i64 0, .slice (some ⟨w1.heap.size, 0, none⟩) 1 1, .int .i64 0, .int .i64 0, .string ⟨#[]⟩] 216)).ownsRow w.heap.size 161 1 (.slice (some ⟨w1.heap.size, 0, none⟩) 1 1) [Value.pointer (some ⟨ku0, 0, none⟩)].length [Value.pointer (some ⟨ku0, 0, none⟩)] := ⟨rfl, Or.inr ⟨_, 1, _, rfl, by omega, HN3A.out, Nat.le_refl _, by decide, rfl, rfl⟩⟩
  have hT0 : ∀ (j : Nat) u l, [Value.pointer (some ⟨ku0, 0, none⟩)][j]? = some u → [l0][j]? = some l → RuAt ((w1.alloc (.cells #[.pointer (some ⟨ku0, 0, none⟩)] 161)).alloc (.cells #[.string ⟨#[]⟩, .int .i64 0, .slice (some ⟨w1.heap.size, 0, none⟩) 1 1, .int .i64 0, .int .i64 0, .string ⟨#[]⟩] 216)) (fun k => w.heap.size ≤ k ∧ k ≠ w1.heap.size + 1 ∧ some k ≠ (Value.slice (some ⟨w1.heap.size, 0, none⟩) 1 1).ownBlock) u l := by
    intro j u l hu hl
    cases j with
    | succ j => simp at hu
    | zero =>
      simp only [List.getElem?_cons_zero, Option.some.injEq] at hu hl
      subst hu; subst hl
      refine (t0.lt.move (fun k cs T fr hk _ hb => (hB0.block k hk.2).trans hb)).imp (fun k hk => ⟨hk.1, by omega, fun e => ?_⟩)
      have e3 := Option.some.inj (show some k = some w1.heap.size from e)
      omega
  clear H3 HP3 HN3N HN3A HK3 t0 hB0
  generalize ((w1.alloc (.cells #[.pointer (some ⟨ku0, 0, none⟩)] 161)).alloc (.cells #[.string ⟨#[]⟩, .int .i64 0, .slice (some ⟨w1.heap.size, 0, none⟩) 1 1, .int .i64 0, .int .i64 0, .string ⟨#[]⟩] 216)) = wl at *
  have zN : w.heap.size ≤ w1.heap.size := zw1
  go_loopg [] (ln s1) (fun k wr => ∃ (vs : List Value) (ls : List (List Leaf)) (v : Value) (s' : St) (f : Nat), ln s' ≤ k ∧ ln s' ≤ f ∧ ln s' ≤ n ∧ PS wr b G s' ∧ PP wr p b S ∧ wr.heap[w1.heap.size + 1]? = some (.cells #[.string ⟨#[]⟩, .int .i64 0, v, .int .i64 0, .int .i64 0, .string ⟨#[]⟩] 216 (0, 0)) ∧ wr.ownsRow w.heap.size 161 1 v vs.length vs ∧ vs.length = ls.length ∧ (∀ (j : Nat) u l, vs[j]? = some u → ls[j]? = some l → RuAt wr (fun k => w.heap.size ≤ k ∧ k ≠ w1.heap.size + 1 ∧ some k ≠ v.ownBlock) u l) ∧ vs.length + ln s' ≤ 802 ∧ Keep b w wr ∧ chainF ⟨#[111, 114]⟩ part 801 [l0] s1 = chainF ⟨#[111, 114]⟩ part f ls s')
  case atStart => exact ⟨_, [l0], _, s1, 801, Nat.le_refl _, hl0, by omega, h0, hP0, hN0, hO0, rfl, hT0, by simp; omega, hK0, rfl⟩
  case round =>
    clear h0 hP0 hN0 hO0 hT0 hK0 hl0
    obtain ⟨vs, ls, v, s', f, hlk, hlf, hln, h1, hP1, hN1, hO1, hvl, hT1, hvn, hK1, hrel⟩ := hrel
    obtain ⟨aI, cI, rfl⟩ := own_slice hO1
    have HVL := hide hvl
    clear hvl
    have HM := hide hrel
    have H1 := hide h1
    have HP1 := hide hP1
    have HN1 := hide hN1
    have HO1 := hide hO1
    have HT1 := hide hT1
    have HK1 := hide hK1
    have c1 := hP1.c0
    have zN1 := lt_of_block hN1
    have zp1 := hP1.lt
    have hc := takeW_any wr b G s' ⟨#[111, 114]⟩ h1
    clear h1 hP1 hN1 hO1 hT1 hK1 hrel
    cases hx : isW s' ⟨#[111, 114]⟩
    · rw [hx] at hc
      have HE := hide (show FF = (ls.flatten, s') from by rw [HQ.out, HM.out, chainF_stop _ _ _ _ _ hx])
      clear hx HM HQ
      go_wp2_with fail
      refine hc.mono ?_
      clear hc
      rintro e wA ⟨rfl, h2, k2⟩
      have hN2 := k2.at HN1.out (by omega)
      have hO2 := ownsRow_stay HO1.out (H1.out.stay k2)
      have HX := hide (show RuAt wA (fun k => w.heap.size ≤ k) (.pointer (some ⟨w1.heap.size + 1, 0, none⟩)) ls.flatten from
        .node (w1.heap.size + 1) 0 ⟨#[]⟩ _ _ _ _ vs ls (by omega) (by decide) hN2 (ownsRow_lower hO2 (Nat.zero_le _)) (fun g hg => (hO2.lt g hg).1) (by omega) HVL.out (fun j u l hu hl => (RuAt.keep H1.out k2 (HT1.out j u l hu hl)).imp (fun k hk => hk.1)))
      have HK2 := hide (HK1.out.trans k2)
      have H2 := hide h2
      clear h2 k2 hN2 hO2 H1 HP1 HN1 HO1 HT1 HK1
      go_wp2_with fail
      go_ret
      exact ⟨_, rfl, by rw [HE.out]; exact HX.out, by rw [HE.out]; exact H2.out, HK2.out⟩
    · rw [hx] at hc
      have hlt' := ln_isW s' _ hx
      obtain ⟨f', rfl⟩ : ∃ f', f = f' + 1 := ⟨f - 1, by omega⟩
      have HE := hide (show chainF ⟨#[111, 114]⟩ part 801 [l0] s1 = chainF ⟨#[111, 114]⟩ part f' (ls ++ [(part (tl s')).1]) (part (tl s')).2 from by rw [HM.out, chainF, if_pos hx])
      have hlm := HPL.out (tl s')
      have hpc := fun W hP h => HPART.out W (tl s') (by omega) hP h
      clear hx HM
      generalize (part (tl s')).1 = lv at *
      generalize (part (tl s')).2 = s2 at *
      go_wp2_with fail
      refine hc.mono ?_
      clear hc
      rintro e wA ⟨rfl, h2, k2⟩
      have HN2 := hide (k2.at HN1.out (by omega))
      have HO2 := hide (ownsRow_stay HO1.out (H1.out.stay k2))
      have HT2 := hide (fun (j : Nat) u l hu hl => RuAt.keep H1.out k2 (HT1.out j u l hu hl))
      have HK2 := hide (HK1.out.trans k2)
      have HP2 := hide (HP1.out.keep H1.out k2)
      have H2 := hide (show PS wA b G (tl s') from h2)
      clear h2 k2 H1 HP1 HN1 HO1 HT1 HK1
      have dA : wA.cell? ⟨w1.heap.size + 1, 2, none⟩ = some (Value.slice aI vs.length cI) := cell_of_block HN2.out 2
      have fA := frozen_of_block HN2.out 2
      have zA : w.heap.size ≤ wA.heap.size := HK2.out.size
      have cA := HP2.out.c0
      have zpA := HP2.out.lt
      have zFA := lt_of_block HN2.out
      have HC := hide (show ∀ W, Below wA.heap.size wA W → Calls Tryz.prog 168 #[.pointer (some ⟨p, 0, none⟩)] W fun e w' => ∃ ku, e = .returned (.pointer (some ⟨ku, 0, none⟩)) ∧ PS w' b G s2 ∧ Keep b wA w' ∧ w'.cell? ⟨p, 0, none⟩ = some (.pointer (some ⟨b, 0, none⟩)) ∧ w'.cell? ⟨w1.heap.size + 1, 2, none⟩ = some (Value.slice aI vs.length cI) ∧ w'.ownsRow w.heap.size 161 1 (Value.slice aI vs.length cI) vs.length vs ∧ w'.frozen? ⟨w1.heap.size + 1, 2, none⟩ = false ∧ wA.heap.size ≤ w'.heap.size ∧ RuAt w' (fun k => wA.heap.size ≤ k) (.pointer (some ⟨ku, 0, none⟩)) lv from fun W hW => (hpc W (HP2.out.below hW) (H2.out.below hW)).mono (by
        rintro e w' ⟨u, a1, t, a2, a3⟩
        obtain ⟨ku, rfl⟩ := t.ptr
        have a4 := (Keep.of_below (b := b) hW).trans a3
        exact ⟨ku, a1, a2, a4, (HP2.out.keep H2.out a4).c0, cell_of_block (a4.at HN2.out (by omega)) 2, ownsRow_stay HO2.out (H2.out.stay a4), frozen_of_block (a4.at HN2.out (by omega)) 2, a4.size, t.imp (fun k hk => Nat.le_trans hW.size hk)⟩))
      have hrd : ∀ k, (Value.slice aI vs.length cI).ownBlock = some k → w.heap.size ≤ k := fun k hk => (HO2.out.lt k hk).1
      have hloN : Option.some (w1.heap.size + 1) ≠ (Value.slice aI vs.length cI).ownBlock := own_far HO2.out HN2.out (by decide)
      have hlop : Option.some p ≠ (Value.slice aI vs.length cI).ownBlock := own_far HO2.out HP2.out (by decide)
      have hlob : Option.some b ≠ (Value.slice aI vs.length cI).ownBlock := own_far HO2.out H2.out.ty.choose_spec (by decide)
      have hpF : p ≠ w1.heap.size + 1 := HP2.out.ne HN2.out (by decide)
      go_wp2_with fail
      go_region_law (first
        | (refine step_append_lies _ (by rfl) _ _ _ (by rfl) w.heap.size 161 i0 _ 1 8 Tryz.underlying214 hi hz0 hz1 hz2 rfl (by decide) _ _ _ (by rfl) (hO4.alloc _) ⟨wc201.heap.size, 0, none⟩ 1 1 [.pointer (some ⟨ku, 0, none⟩)] (by rfl) (by rfl) (cell_one_new _ _ _) (fun u hu => by simp at hu; subst hu; rfl) (by decide) (by unfold maxLen; omega) (by omega) (by simp; omega) (wc201.heap.size + 1) (by simp) ?_; intro g cap wd201 hown5 hgrow hat hg5; have e5 : wd201.cell? ⟨w1.heap.size + 1, 2, none⟩ = some (Value.slice aI vs.length cI) := (hgrow.cell_far ⟨w1.heap.size + 1, 2, none⟩ (by simp; omega) hloN).trans (by first | exact (((Below.refl wc201.heap.size wc201).alloc (Nat.le_refl _) _).cell (show w1.heap.size + 1 < wc201.heap.size by omega)).trans d4 | exact ((((Below.refl wc201.heap.size wc201).alloc (Nat.le_refl _) _).drew).cell (show w1.heap.size + 1 < wc201.heap.size by omega)).trans d4); have cp5 : wd201.cell? ⟨p, 0, none⟩ = some (.pointer (some ⟨b, 0, none⟩)) := (hgrow.cell_far ⟨p, 0, none⟩ (by simp; omega) hlop).trans (by first | exact (((Below.refl wc201.heap.size wc201).alloc (Nat.le_refl _) _).cell (show p < wc201.heap.size by omega)).trans c4 | exact ((((Below.refl wc201.heap.size wc201).alloc (Nat.le_refl _) _).drew).cell (show p < wc201.heap.size by omega)).trans c4); have f5 : wd201.frozen? ⟨w1.heap.size + 1, 2, none⟩ = false := (hgrow.frozen_far ⟨w1.heap.size + 1, 2, none⟩ (by simp; omega) hloN).trans (by first | exact (((Below.refl wc201.heap.size wc201).alloc (Nat.le_refl _) _).frozen (show w1.heap.size + 1 < wc201.heap.size by omega)).trans f4 | exact ((((Below.refl wc201.heap.size wc201).alloc (Nat.le_refl _) _).drew).frozen (show w1.heap.size + 1 < wc201.heap.size by omega)).trans f4))
        | (go_simp; go_at_call 168; refine (HC.out _ ?_).mono ?_; (first | exact (Below.refl _ _).drew | exact Below.refl _ _); rintro e wc201 ⟨ku, rfl, h4, k4, c4, d4, hO4, f4, z4, t4⟩; have n4 : wc201.heap.size ≠ w1.heap.size + 1 := (by omega); have n4' : w1.heap.size + 1 < wc201.heap.size := (by omega); have n4p : p < wc201.heap.size := (by omega)))
      all_goals (
        have h4N := (k4.at HN2.out (by omega))
        have g5N : wd201.heap[w1.heap.size + 1]? = some (.cells #[.string ⟨#[]⟩, .int .i64 0, .slice aI vs.length cI, .int .i64 0, .int .i64 0, .string ⟨#[]⟩] 216 (0, 0)) := (hgrow.block _ (by simp; omega) hloN).trans ((alloc_other _ _ _ (lt_of_block h4N)).trans h4N)
        have hP4 := HP2.out.keep H2.out k4
        have hK4 := HK2.out.trans k4
        have H202 := hide (((h4.alloc _).grown' hgrow hlob (fun e => by have := hrd G e.symm; omega)).set (F := w1.heap.size + 1) (by omega) (by omega) 2 (Value.slice (some ⟨g, 0, none⟩) (vs.length + 1) cap))
        have HP202 := hide (((hP4.alloc _).grown' hgrow hlop).set g5N (by decide) 2 (Value.slice (some ⟨g, 0, none⟩) (vs.length + 1) cap))
        have HK202 := hide (((hK4.alloc _).grown hgrow (fun k hk => by have := hrd k hk; omega)).setNew ⟨w1.heap.size + 1, 2, none⟩ (by simp only []; omega) (Value.slice (some ⟨g, 0, none⟩) (vs.length + 1) cap))
        have HO202 := hide (ownsRow_stay hown5 (Stay.setT (T := 161) (B := w.heap.size) g5N (by decide) 2 (Value.slice (some ⟨g, 0, none⟩) (vs.length + 1) cap)))
        have HN202N := hide (show (wd201.setCell ⟨w1.heap.size + 1, 2, none⟩ (Value.slice (some ⟨g, 0, none⟩) (vs.length + 1) cap)).heap[w1.heap.size + 1]? = some (.cells #[.string ⟨#[]⟩, .int .i64 0, (Value.slice (some ⟨g, 0, none⟩) (vs.length + 1) cap), .int .i64 0, .int .i64 0, .string ⟨#[]⟩] 216 (0, 0)) from setCell_block g5N 2 (Value.slice (some ⟨g, 0, none⟩) (vs.length + 1) cap))
        have hT6 : ∀ (j : Nat) u l, (vs ++ [Value.pointer (some ⟨ku, 0, none⟩)])[j]? = some u → (ls ++ [lv])[j]? = some l → RuAt (wd201.setCell ⟨w1.heap.size + 1, 2, none⟩ (Value.slice (some ⟨g, 0, none⟩) (vs.length + 1) cap)) (fun k => w.heap.size ≤ k ∧ k ≠ w1.heap.size + 1 ∧ some k ≠ (Value.slice (some ⟨g, 0, none⟩) (vs.length + 1) cap).ownBlock) u l := by
          have hvl := HVL.out
          have step : ∀ {u : Value} {l : List Leaf}, RuAt wc201 (fun k => w.heap.size ≤ k ∧ k ≠ w1.heap.size + 1 ∧ some k ≠ (Value.slice aI vs.length cI).ownBlock) u l → RuAt (wd201.setCell ⟨w1.heap.size + 1, 2, none⟩ (Value.slice (some ⟨g, 0, none⟩) (vs.length + 1) cap)) (fun k => w.heap.size ≤ k ∧ k ≠ w1.heap.size + 1 ∧ some k ≠ (Value.slice (some ⟨g, 0, none⟩) (vs.length + 1) cap).ownBlock) u l := by
            intro u l ht
            refine (ht.lt.move (fun k cs T fr hk _ hb => ?_)).imp (fun k hk => ⟨hk.1.1, hk.1.2.1, fun e => ?_⟩)
            · exact set_other_at ((hgrow.block k (by simp; omega) hk.1.2.2).trans ((alloc_other _ _ _ hk.2).trans hb)) hk.1.2.1 _ _
            · have e3 := Option.some.inj (show some k = some g from e)
              rcases hat with e | e
              · exact hk.1.2.2 (by rw [e3, e])
              · omega
          intro j u l hu hl
          by_cases hj : j < vs.length
          · rw [List.getElem?_append_left hj] at hu
            rw [List.getElem?_append_left (by omega)] at hl
            exact step (RuAt.keep H2.out k4 (HT2.out j u l hu hl))
          · have hj' : j = vs.length := by
              have := (List.getElem?_eq_some_iff.1 hu).1
              simp at this; omega
            subst hj'
            rw [List.getElem?_append_right (Nat.le_refl _)] at hu
            rw [List.getElem?_append_right (by omega)] at hl
            simp only [Nat.sub_self, List.getElem?_cons_zero, Option.some.injEq] at hu
            rw [show vs.length - ls.length = 0 by omega] at hl
            simp only [List.getElem?_cons_zero, Option.some.injEq] at hl
            subst hu; subst hl
            exact step (t4.imp (fun k hk => ⟨by omega, by omega, fun e => by have := (HO2.out.lt k e.symm).2; omega⟩))
        have HX := hide (show _ ∧ _ ∧ _ ∧ _ ∧ _ ∧ _ from ⟨H202.out, HP202.out, HN202N.out, HO202.out, hT6, HK202.out⟩)
        clear hT6 hgrow hown5 h4 k4 hO4 t4 H202 HP202 HK202 HO202 HN202N g5N h4N hP4 hK4
        go_wp2_with fail
        go_roundg (ln s2)
        case measure => omega
        case rel => exact ⟨vs ++ [Value.pointer (some ⟨ku, 0, none⟩)], ls ++ [lv], _, s2, f', Nat.le_refl _, by omega, by omega, HX.out.1, HX.out.2.1, HX.out.2.2.1, by rw [List.length_append]; exact HX.out.2.2.2.1, by have := HVL.out; simp; omega, HX.out.2.2.2.2.1, by simp; omega, HX.out.2.2.2.2.2, HE.out⟩)
end Go.Proofs.YtpggfgjongkihaaGreat
namespace Go.Proofs.YtpggfgjongkihaaGreat
open Go.RowKit
set_option maxHeartbeats 1000000 in
theorem clauseC (p b S G n : Nat) (part : St → List Leaf × St) (hpart : PartC 195 p b S G n part) (hpl0 : ∀ s, ln (part s).2 ≤ ln s) (hn : n ≤ 801) : PartC 168 p b S G n (chain ⟨#[97, 110, 100]⟩ part) := by
  intro w s hl hP h
  have hc := chain126_any w p b S G n part s hpart hpl0 hl hn hP h
  go_enter Tryz.func168, Tryz.ntmps168
  go_wp2_with fail
  refine hc.mono ?_
  clear hc
  rintro e w1 ⟨u, rfl, t1, h1, k1⟩
  go_wp2_with fail
  go_ret
  exact ⟨_, rfl, t1, h1, k1⟩
set_option maxHeartbeats 1000000 in
theorem ruleC (p b S G n : Nat) (part : St → List Leaf × St) (hpart : PartC 168 p b S G n part) (hpl0 : ∀ s, ln (part s).2 ≤ ln s) (hn : n ≤ 801) : PartC 134 p b S G n (chain ⟨#[111, 114]⟩ part) := by
  intro w s hl hP h
  have hc := chain107_any w p b S G n part s hpart hpl0 hl hn hP h
  go_enter Tryz.func134, Tryz.ntmps134
  go_wp2_with fail
  refine hc.mono ?_
  clear hc
  rintro e w1 ⟨u, rfl, t1, h1, k1⟩
  go_wp2_with fail
  go_ret
  exact ⟨_, rfl, t1, h1, k1⟩
def pUnit : Nat → St → List Leaf × St
  | 0 => fun s => ([], s)
  | f + 1 => fun s =>
    if isK s 7 = true then ((chain ⟨#[111, 114]⟩ (chain ⟨#[97, 110, 100]⟩ (pUnit f)) (tl s)).1, mustT (chain ⟨#[111, 114]⟩ (chain ⟨#[97, 110, 100]⟩ (pUnit f)) (tl s)).2 (isK (chain ⟨#[111, 114]⟩ (chain ⟨#[97, 110, 100]⟩ (pUnit f)) (tl s)).2 8))
    else if nm s = bNot then pUnit f (nmT s)
    else if nm s = bAll then ([], nmT s)
    else if nm s = bIs then ([(true, nm (nmT s))], nmT (nmT s))
    else ([(false, nm s)], pValue (mustT (nmT s) (isK (nmT s) 10)))
theorem pUnit_succ (f : Nat) (s : St) : pUnit (f + 1) s = (if isK s 7 = true then ((chain ⟨#[111, 114]⟩ (chain ⟨#[97, 110, 100]⟩ (pUnit f)) (tl s)).1, mustT (chain ⟨#[111, 114]⟩ (chain ⟨#[97, 110, 100]⟩ (pUnit f)) (tl s)).2 (isK (chain ⟨#[111, 114]⟩ (chain ⟨#[97, 110, 100]⟩ (pUnit f)) (tl s)).2 8))
    else if nm s = bNot then pUnit f (nmT s)
    else if nm s = bAll then ([], nmT s)
    else if nm s = bIs then ([(true, nm (nmT s))], nmT (nmT s))
    else ([(false, nm s)], pValue (mustT (nmT s) (isK (nmT s) 10)))) := rfl
def pRule (f : Nat) : St → List Leaf × St := chain ⟨#[111, 114]⟩ (chain ⟨#[97, 110, 100]⟩ (pUnit f))
theorem ln_pValue (s : St) : ln (pValue s) ≤ ln s := by
  unfold pValue
  split
  · exact ln_tl_le s
  · unfold pVal
    split
    · exact ln_tl_le s
    · split
      · exact ln_tl_le s
      · split
        · unfold wordS
          split
          · exact ln_tl_le s
          · split
            · exact ln_tl_le s
            · split
              · exact ln_tl_le s
              · simp [ln]
        · simp [ln]
theorem ln_pUnit : ∀ (f : Nat) (s : St), ln (pUnit f s).2 ≤ ln s
  | 0, s => Nat.le_refl _
  | f + 1, s => by
    rw [pUnit_succ]
    split
    · exact Nat.le_trans (ln_mustT _ _) (Nat.le_trans (ln_chain _ _ (ln_chain _ _ (ln_pUnit f)) _) (ln_tl_le s))
    · split
      · exact Nat.le_trans (ln_pUnit f _) (ln_nmT s)
      · split
        · exact ln_nmT s
        · split
          · exact Nat.le_trans (ln_nmT _) (ln_nmT s)
          · exact Nat.le_trans (ln_pValue _) (Nat.le_trans (ln_mustT _ _) (ln_nmT s))
theorem nm_isK (s : St) (x : ByteArray) (h : nm s = x) (hx : 0 < x.size) : isK s 1 = true := by
  unfold nm at h
  split at h
  · assumption
  · subst h; exact absurd hx (by decide)
set_option maxHeartbeats 2000000 in
set_option maxRecDepth 100000 in
theorem unitC (p b S G : Nat) : ∀ (f : Nat), f ≤ 801 → PartC 195 p b S G f (pUnit (f + 1)) := by
  intro f
  induction f using Nat.strongRecOn with
  | _ f ih =>
  intro hf8 w s hl hP h
  have hc0 := take_any w b G s 7 h
  cases hx : isK s 7
  · skip
    rw [hx] at hc0
    have L1 := beq_lit (nm s) [110, 111, 116]
    have L2 := beq_lit (nm s) [97, 108, 108]
    have L3 := beq_lit (nm s) [105, 115]
    have hneg := (by rw [hx]; simp : ¬ isK s 7 = true)
    by_cases e1 : nm s = bNot
    · skip
      have HQ := hide (show pUnit (f + 1) s = pUnit f (nmT s) from by rw [pUnit_succ, if_neg hneg, if_pos e1])
      have hk1 := nm_isK s _ e1 (by decide)
      have hlt1 := ln_nmT1 s hk1
      obtain ⟨f', rfl⟩ : ∃ f', f = f' + 1 := ⟨f - 1, by omega⟩
      have hih := fun W (hP : PP W p b S) (h : PS W b G (nmT s)) => ih f' (by omega) (by omega) W (nmT s) (by omega) hP h
      clear hk1
      rw [decide_eq_true (show nm s = ofB [110, 111, 116] from e1)] at L1
      clear hneg hx ih e1 L2 L3
      have hnn := fun W (h : PS W b G s) => needName_any W b G s h
      generalize pUnit (f' + 1 + 1) s = FF at *
      generalize pUnit (f' + 1) (nmT s) = rr at *
      generalize nm s = n at *
      generalize nmT s = s1 at *
      have hlt := h.lt
      have hgl := h.glt
      have hpl := hP.lt
      have H0 := hide h
      have HP0 := hide hP
      have HK0 := hide (Keep.refl b w)
      have c0 := hP.c0
      clear h hP
      go_enter Tryz.func195, Tryz.ntmps195
      go_wp2_with fail
      refine hc0.mono ?_
      clear hc0
      rintro e w1 ⟨rfl, h1, k1⟩
      have HP1 := hide (HP0.out.keep H0.out k1)
      have HK1 := hide (HK0.out.trans k1)
      have H1 := hide (show PS w1 b G s from h1)
      have c1 := HP1.out.c0
      have zw1 := HK1.out.size
      have zp1 := HP1.out.lt
      have zb1 := H1.out.lt
      clear H0 HP0 HK0 h1 k1
      have hn := hnn w1 H1.out
      clear hnn
      go_wp2_with fail
      refine hn.mono ?_
      clear hn
      rintro e w2 ⟨rfl, h2, k2⟩
      have HP2 := hide (HP1.out.keep H1.out k2)
      have HK2 := hide (HK1.out.trans k2)
      have H2 := hide (show PS w2 b G s1 from h2)
      have c2 := HP2.out.c0
      have zw2 := HK2.out.size
      have zp2 := HP2.out.lt
      have zb2 := H2.out.lt
      clear H1 HP1 HK1 h2 k2
      have hu := hih w2 HP2.out H2.out
      clear hih
      go_wp2_with fail
      refine hu.mono ?_
      clear hu
      rintro e w3 ⟨u, rfl, t0, h3, k3⟩
      have HP3 := hide (HP2.out.keep H2.out k3)
      have HK3 := hide (HK2.out.trans k3)
      have H3 := hide (show PS w3 b G rr.2 from h3)
      have c3 := HP3.out.c0
      have zw3 := HK3.out.size
      have zp3 := HP3.out.lt
      have zb3 := H3.out.lt
      clear H2 HP2 HK2 h3 k3
      obtain ⟨ku, rfl⟩ := t0.ptr
      have H4 := hide (H3.out.alloc (.cells #[.pointer (some ⟨ku, 0, none⟩)] 161))
      have HP4 := hide (HP3.out.alloc (.cells #[.pointer (some ⟨ku, 0, none⟩)] 161))
      have HK4 := hide (HK3.out.alloc (.cells #[.pointer (some ⟨ku, 0, none⟩)] 161))
      have HN4A := hide (show (w3.alloc (.cells #[.pointer (some ⟨ku, 0, none⟩)] 161)).heap[w3.heap.size]? = some (.cells #[.pointer (some ⟨ku, 0, none⟩)] 161 (0, 0)) from heap_alloc_new _ _)
      clear H3 HP3 HK3
      have c4 := HP4.out.c0
      have H5 := hide (H4.out.alloc (.cells #[.string ⟨#[]⟩, .int .i64 2, .slice (some ⟨w3.heap.size, 0, none⟩) 1 1, .int .i64 0, .int .i64 0, .string ⟨#[]⟩] 216))
      have HP5 := hide (HP4.out.alloc (.cells #[.string ⟨#[]⟩, .int .i64 2, .slice (some ⟨w3.heap.size, 0, none⟩) 1 1, .int .i64 0, .int .i64 0, .string ⟨#[]⟩] 216))
      have HK5 := hide (HK4.out.alloc (.cells #[.string ⟨#[]⟩, .int .i64 2, .slice (some ⟨w3.heap.size, 0, none⟩) 1 1, .int .i64 0, .int .i64 0, .string ⟨#[]⟩] 216))
      have HN5A := hide (show ((w3.alloc (.cells #[.pointer (some ⟨ku, 0, none⟩)] 161)).alloc (.cells #[.string ⟨#[]⟩, .int .i64 2, .slice (some ⟨w3.heap.size, 0, none⟩) 1 1, .int .i64 0, .int .i64 0, .string ⟨#[]⟩] 216)).heap[w3.heap.size]? = some (.cells #[.pointer (some ⟨ku, 0, none⟩)] 161 (0, 0)) from by rw [alloc_other _ _ _ (lt_of_block HN4A.out)]; exact HN4A.out)
      have HN5N := hide (show ((w3.alloc (.cells #[.pointer (some ⟨ku, 0, none⟩)] 161)).alloc (.cells #[.string ⟨#[]⟩, .int .i64 2, .slice (some ⟨w3.heap.size, 0, none⟩) 1 1, .int .i64 0, .int .i64 0, .string ⟨#[]⟩] 216)).heap[w3.heap.size + 1]? = some (.cells #[.string ⟨#[]⟩, .int .i64 2, .slice (some ⟨w3.heap.size, 0, none⟩) 1 1, .int .i64 0, .int .i64 0, .string ⟨#[]⟩] 216 (0, 0)) from two_F _ _ _)
      clear H4 HP4 HK4 HN4A
      have c5 := HP5.out.c0
      have HX := hide (show RuAt ((w3.alloc (.cells #[.pointer (some ⟨ku, 0, none⟩)] 161)).alloc (.cells #[.string ⟨#[]⟩, .int .i64 2, .slice (some ⟨w3.heap.size, 0, none⟩) 1 1, .int .i64 0, .int .i64 0, .string ⟨#[]⟩] 216)) (fun k => w.heap.size ≤ k) (.pointer (some ⟨w3.heap.size + 1, 0, none⟩)) [rr.1].flatten from
        .node (w3.heap.size + 1) 2 ⟨#[]⟩ _ _ _ _ [.pointer (some ⟨ku, 0, none⟩)] [rr.1] (by omega) (by decide) HN5N.out ⟨rfl, Or.inr ⟨_, 1, _, rfl, Nat.zero_le _, HN5A.out, Nat.le_refl _, by decide, rfl, rfl⟩⟩ (fun g hg => by have e3 := Option.some.inj (show some w3.heap.size = some g from hg); omega) (by simp) rfl (fun j u l hu hl => by
          cases j with
          | succ j => simp at hu
          | zero =>
            simp only [List.getElem?_cons_zero, Option.some.injEq] at hu hl
            subst hu; subst hl
            refine (t0.lt.move (fun k cs T fr hk _ hb => ((two_below w3 _ _).block k hk.2).trans hb)).imp (fun k hk => by omega)))
      clear t0
      go_wp2_with fail
      go_ret
      rw [HQ.out]
      exact ⟨_, rfl, by rw [show rr.1 = [rr.1].flatten from by simp]; exact HX.out, H5.out, HK5.out⟩
    by_cases e2 : nm s = bAll
    · skip
      have HQ := hide (show pUnit (f + 1) s = ([], nmT s) from by rw [pUnit_succ, if_neg hneg, if_neg e1, if_pos e2])
      rw [decide_eq_false (show ¬ nm s = ofB [110, 111, 116] from e1)] at L1
      rw [decide_eq_true (show nm s = ofB [97, 108, 108] from e2)] at L2
      clear hneg hx ih e1 e2 L3
      have hnn := fun W (h : PS W b G s) => needName_any W b G s h
      generalize pUnit (f + 1) s = FF at *
      generalize nm s = n at *
      generalize nmT s = s1 at *
      have hlt := h.lt
      have hgl := h.glt
      have hpl := hP.lt
      have H0 := hide h
      have HP0 := hide hP
      have HK0 := hide (Keep.refl b w)
      have c0 := hP.c0
      clear h hP
      go_enter Tryz.func195, Tryz.ntmps195
      go_wp2_with fail
      refine hc0.mono ?_
      clear hc0
      rintro e w1 ⟨rfl, h1, k1⟩
      have HP1 := hide (HP0.out.keep H0.out k1)
      have HK1 := hide (HK0.out.trans k1)
      have H1 := hide (show PS w1 b G s from h1)
      have c1 := HP1.out.c0
      have zw1 := HK1.out.size
      have zp1 := HP1.out.lt
      have zb1 := H1.out.lt
      clear H0 HP0 HK0 h1 k1
      have hn := hnn w1 H1.out
      clear hnn
      go_wp2_with fail
      refine hn.mono ?_
      clear hn
      rintro e w2 ⟨rfl, h2, k2⟩
      have HP2 := hide (HP1.out.keep H1.out k2)
      have HK2 := hide (HK1.out.trans k2)
      have H2 := hide (show PS w2 b G s1 from h2)
      have c2 := HP2.out.c0
      have zw2 := HK2.out.size
      have zp2 := HP2.out.lt
      have zb2 := H2.out.lt
      clear H1 HP1 HK1 h2 k2
      have H3 := hide (H2.out.alloc (.cells #[.string ⟨#[]⟩, .int .i64 3, .slice none 0 0, .int .i64 0, .int .i64 0, .string ⟨#[]⟩] 216))
      have HP3 := hide (HP2.out.alloc (.cells #[.string ⟨#[]⟩, .int .i64 3, .slice none 0 0, .int .i64 0, .int .i64 0, .string ⟨#[]⟩] 216))
      have HK3 := hide (HK2.out.alloc (.cells #[.string ⟨#[]⟩, .int .i64 3, .slice none 0 0, .int .i64 0, .int .i64 0, .string ⟨#[]⟩] 216))
      have HN3N := hide (show (w2.alloc (.cells #[.string ⟨#[]⟩, .int .i64 3, .slice none 0 0, .int .i64 0, .int .i64 0, .string ⟨#[]⟩] 216)).heap[w2.heap.size]? = some (.cells #[.string ⟨#[]⟩, .int .i64 3, .slice none 0 0, .int .i64 0, .int .i64 0, .string ⟨#[]⟩] 216 (0, 0)) from heap_alloc_new _ _)
      clear H2 HP2 HK2
      have c3 := HP3.out.c0
      have HX := hide (show RuAt (w2.alloc (.cells #[.string ⟨#[]⟩, .int .i64 3, .slice none 0 0, .int .i64 0, .int .i64 0, .string ⟨#[]⟩] 216)) (fun k => w.heap.size ≤ k) (.pointer (some ⟨w2.heap.size, 0, none⟩)) ([] : List (List Leaf)).flatten from .node w2.heap.size 3 ⟨#[]⟩ _ _ _ _ [] [] (by omega) (by decide) HN3N.out (World.ownsRow_nil _ _ _ _) (fun g hg => by cases hg) (by decide) rfl (fun j u l hu hl => by simp at hu))
      go_wp2_with fail
      go_ret
      rw [HQ.out]
      exact ⟨_, rfl, HX.out, H3.out, HK3.out⟩
    by_cases e3 : nm s = bIs
    · skip
      have HQ := hide (show pUnit (f + 1) s = ([(true, nm (nmT s))], nmT (nmT s)) from by rw [pUnit_succ, if_neg hneg, if_neg e1, if_neg e2, if_pos e3])
      rw [decide_eq_false (show ¬ nm s = ofB [110, 111, 116] from e1)] at L1
      rw [decide_eq_false (show ¬ nm s = ofB [97, 108, 108] from e2)] at L2
      rw [decide_eq_true (show nm s = ofB [105, 115] from e3)] at L3
      clear hneg hx ih e1 e2 e3
      have hnn := fun W (h : PS W b G s) => needName_any W b G s h
      generalize pUnit (f + 1) s = FF at *
      generalize nm s = n at *
      generalize nmT s = s1 at *
      have hlt := h.lt
      have hgl := h.glt
      have hpl := hP.lt
      have H0 := hide h
      have HP0 := hide hP
      have HK0 := hide (Keep.refl b w)
      have c0 := hP.c0
      clear h hP
      go_enter Tryz.func195, Tryz.ntmps195
      go_wp2_with fail
      refine hc0.mono ?_
      clear hc0
      rintro e w1 ⟨rfl, h1, k1⟩
      have HP1 := hide (HP0.out.keep H0.out k1)
      have HK1 := hide (HK0.out.trans k1)
      have H1 := hide (show PS w1 b G s from h1)
      have c1 := HP1.out.c0
      have zw1 := HK1.out.size
      have zp1 := HP1.out.lt
      have zb1 := H1.out.lt
      clear H0 HP0 HK0 h1 k1
      have hn := hnn w1 H1.out
      clear hnn
      go_wp2_with fail
      refine hn.mono ?_
      clear hn
      rintro e w2 ⟨rfl, h2, k2⟩
      have HP2 := hide (HP1.out.keep H1.out k2)
      have HK2 := hide (HK1.out.trans k2)
      have H2 := hide (show PS w2 b G s1 from h2)
      have c2 := HP2.out.c0
      have zw2 := HK2.out.size
      have zp2 := HP2.out.lt
      have zb2 := H2.out.lt
      clear H1 HP1 HK1 h2 k2
      have hnm := fun W (hP : PP W p b S) (h : PS W b G s1) => readNamed_any W p b S G s1 hP h
      generalize nm s1 = m at *
      generalize nmT s1 = s2 at *
      have hm := hnm w2 HP2.out H2.out
      clear hnm
      go_wp2_with fail
      refine hm.mono ?_
      clear hm
      rintro e w3 ⟨rfl, h3, k3⟩
      have HP3 := hide (HP2.out.keep H2.out k3)
      have HK3 := hide (HK2.out.trans k3)
      have H3 := hide (show PS w3 b G s2 from h3)
      have c3 := HP3.out.c0
      have zw3 := HK3.out.size
      have zp3 := HP3.out.lt
      have zb3 := H3.out.lt
      clear H2 HP2 HK2 h3 k3
      have H4 := hide (H3.out.alloc (.cells #[.string m, .int .i64 4, .slice none 0 0, .int .i64 0, .int .i64 0, .string ⟨#[]⟩] 216))
      have HP4 := hide (HP3.out.alloc (.cells #[.string m, .int .i64 4, .slice none 0 0, .int .i64 0, .int .i64 0, .string ⟨#[]⟩] 216))
      have HK4 := hide (HK3.out.alloc (.cells #[.string m, .int .i64 4, .slice none 0 0, .int .i64 0, .int .i64 0, .string ⟨#[]⟩] 216))
      have HN4N := hide (show (w3.alloc (.cells #[.string m, .int .i64 4, .slice none 0 0, .int .i64 0, .int .i64 0, .string ⟨#[]⟩] 216)).heap[w3.heap.size]? = some (.cells #[.string m, .int .i64 4, .slice none 0 0, .int .i64 0, .int .i64 0, .string ⟨#[]⟩] 216 (0, 0)) from heap_alloc_new _ _)
      clear H3 HP3 HK3
      have c4 := HP4.out.c0
      have HX := hide (show RuAt (w3.alloc (.cells #[.string m, .int .i64 4, .slice none 0 0, .int .i64 0, .int .i64 0, .string ⟨#[]⟩] 216)) (fun k => w.heap.size ≤ k) (.pointer (some ⟨w3.heap.size, 0, none⟩)) [(true, m)] from .is w3.heap.size m _ _ _ _ (by omega) HN4N.out)
      go_wp2_with fail
      go_ret
      rw [HQ.out]
      exact ⟨_, rfl, HX.out, H4.out, HK4.out⟩
    have HQ := hide (show pUnit (f + 1) s = ([(false, nm s)], pValue (mustT (nmT s) (isK (nmT s) 10))) from by rw [pUnit_succ, if_neg hneg, if_neg e1, if_neg e2, if_neg e3])
    rw [decide_eq_false (show ¬ nm s = ofB [110, 111, 116] from e1)] at L1
    rw [decide_eq_false (show ¬ nm s = ofB [97, 108, 108] from e2)] at L2
    rw [decide_eq_false (show ¬ nm s = ofB [105, 115] from e3)] at L3
    clear hneg hx ih e1 e2 e3
    have hnn := fun W (h : PS W b G s) => needName_any W b G s h
    generalize pUnit (f + 1) s = FF at *
    generalize nm s = n at *
    generalize nmT s = s1 at *
    have hlt := h.lt
    have hgl := h.glt
    have hpl := hP.lt
    have H0 := hide h
    have HP0 := hide hP
    have HK0 := hide (Keep.refl b w)
    have c0 := hP.c0
    clear h hP
    go_enter Tryz.func195, Tryz.ntmps195
    go_wp2_with fail
    refine hc0.mono ?_
    clear hc0
    rintro e w1 ⟨rfl, h1, k1⟩
    have HP1 := hide (HP0.out.keep H0.out k1)
    have HK1 := hide (HK0.out.trans k1)
    have H1 := hide (show PS w1 b G s from h1)
    have c1 := HP1.out.c0
    have zw1 := HK1.out.size
    have zp1 := HP1.out.lt
    have zb1 := H1.out.lt
    clear H0 HP0 HK0 h1 k1
    have hn := hnn w1 H1.out
    clear hnn
    go_wp2_with fail
    refine hn.mono ?_
    clear hn
    rintro e w2 ⟨rfl, h2, k2⟩
    have HP2 := hide (HP1.out.keep H1.out k2)
    have HK2 := hide (HK1.out.trans k2)
    have H2 := hide (show PS w2 b G s1 from h2)
    have c2 := HP2.out.c0
    have zw2 := HK2.out.size
    have zp2 := HP2.out.lt
    have zb2 := H2.out.lt
    clear H1 HP1 HK1 h2 k2
    have hm := need_any w2 b G s1 10 H2.out
    go_wp2_with fail
    refine hm.mono ?_
    clear hm
    rintro e w3 ⟨rfl, h3, k3⟩
    have HP3 := hide (HP2.out.keep H2.out k3)
    have HK3 := hide (HK2.out.trans k3)
    have H3 := hide (show PS w3 b G (mustT s1 (isK s1 10)) from h3)
    have c3 := HP3.out.c0
    have zw3 := HK3.out.size
    have zp3 := HP3.out.lt
    have zb3 := H3.out.lt
    clear H2 HP2 HK2 h3 k3
    have hv := readValue_any w3 p b S G (mustT s1 (isK s1 10)) HP3.out H3.out
    go_wp2_with fail
    refine hv.mono ?_
    clear hv
    rintro e w4 ⟨v, rfl, ⟨va, vc, vd, rfl⟩, h4, k4⟩
    have HP4 := hide (HP3.out.keep H3.out k4)
    have HK4 := hide (HK3.out.trans k4)
    have H4 := hide (show PS w4 b G (pValue (mustT s1 (isK s1 10))) from h4)
    have c4 := HP4.out.c0
    have zw4 := HK4.out.size
    have zp4 := HP4.out.lt
    have zb4 := H4.out.lt
    clear H3 HP3 HK3 h4 k4
    have H5 := hide (H4.out.alloc (.cells #[.string n, .int .i64 5, .slice none 0 0, .int .i64 va, .int .i64 vc, .string vd] 216))
    have HP5 := hide (HP4.out.alloc (.cells #[.string n, .int .i64 5, .slice none 0 0, .int .i64 va, .int .i64 vc, .string vd] 216))
    have HK5 := hide (HK4.out.alloc (.cells #[.string n, .int .i64 5, .slice none 0 0, .int .i64 va, .int .i64 vc, .string vd] 216))
    have HN5N := hide (show (w4.alloc (.cells #[.string n, .int .i64 5, .slice none 0 0, .int .i64 va, .int .i64 vc, .string vd] 216)).heap[w4.heap.size]? = some (.cells #[.string n, .int .i64 5, .slice none 0 0, .int .i64 va, .int .i64 vc, .string vd] 216 (0, 0)) from heap_alloc_new _ _)
    clear H4 HP4 HK4
    have c5 := HP5.out.c0
    have HX := hide (show RuAt (w4.alloc (.cells #[.string n, .int .i64 5, .slice none 0 0, .int .i64 va, .int .i64 vc, .string vd] 216)) (fun k => w.heap.size ≤ k) (.pointer (some ⟨w4.heap.size, 0, none⟩)) [(false, n)] from .eq w4.heap.size n _ _ _ _ (by omega) HN5N.out)
    go_wp2_with fail
    go_ret
    rw [HQ.out]
    exact ⟨_, rfl, HX.out, H5.out, HK5.out⟩
  · skip
    rw [hx] at hc0
    have hlt1 := ln_tl_lt s 7 (by decide) hx
    obtain ⟨f', rfl⟩ : ∃ f', f = f' + 1 := ⟨f - 1, by omega⟩
    have HQ := hide (show pUnit (f' + 1 + 1) s = ((chain ⟨#[111, 114]⟩ (chain ⟨#[97, 110, 100]⟩ (pUnit (f' + 1))) (tl s)).1, mustT (chain ⟨#[111, 114]⟩ (chain ⟨#[97, 110, 100]⟩ (pUnit (f' + 1))) (tl s)).2 (isK (chain ⟨#[111, 114]⟩ (chain ⟨#[97, 110, 100]⟩ (pUnit (f' + 1))) (tl s)).2 8)) from by rw [pUnit_succ, if_pos hx])
    have hr := fun W (hP : PP W p b S) (h : PS W b G (tl s)) => ruleC p b S G f' _ (clauseC p b S G f' _ (ih f' (by omega) (by omega)) (ln_pUnit _) (by omega)) (ln_chain _ _ (ln_pUnit _)) (by omega) W (tl s) (by omega) hP h
    clear hx ih
    generalize pUnit (f' + 1 + 1) s = FF at *
    generalize chain ⟨#[111, 114]⟩ (chain ⟨#[97, 110, 100]⟩ (pUnit (f' + 1))) (tl s) = rr at *
    have hlt := h.lt
    have hgl := h.glt
    have hpl := hP.lt
    have H0 := hide h
    have HP0 := hide hP
    have HK0 := hide (Keep.refl b w)
    have c0 := hP.c0
    clear h hP
    go_enter Tryz.func195, Tryz.ntmps195
    go_wp2_with fail
    refine hc0.mono ?_
    clear hc0
    rintro e w1 ⟨rfl, h1, k1⟩
    have HP1 := hide (HP0.out.keep H0.out k1)
    have HK1 := hide (HK0.out.trans k1)
    have H1 := hide (show PS w1 b G (tl s) from h1)
    have c1 := HP1.out.c0
    have zw1 := HK1.out.size
    have zp1 := HP1.out.lt
    have zb1 := H1.out.lt
    clear H0 HP0 HK0 h1 k1
    have hu := hr w1 HP1.out H1.out
    clear hr
    go_wp2_with fail
    refine hu.mono ?_
    clear hu
    rintro e w2 ⟨u, rfl, t0, h2, k2⟩
    have HP2 := hide (HP1.out.keep H1.out k2)
    have HK2 := hide (HK1.out.trans k2)
    have H2 := hide (show PS w2 b G rr.2 from h2)
    have c2 := HP2.out.c0
    have zw2 := HK2.out.size
    have zp2 := HP2.out.lt
    have zb2 := H2.out.lt
    clear H1 HP1 HK1 h2 k2
    have hn := need_any w2 b G rr.2 8 H2.out
    have HT := hide t0
    clear t0
    obtain ⟨ku, rfl⟩ := HT.out.ptr
    go_wp2_with fail
    refine hn.mono ?_
    clear hn
    rintro e w9 ⟨rfl, h9, k9⟩
    have HT9 := hide (RuAt.keep H2.out k9 HT.out)
    have HK9 := hide (HK2.out.trans k9)
    have H9 := hide h9
    clear h9 k9 HT H2 HK2 HP2
    go_wp2_with fail
    go_ret
    rw [HQ.out]
    exact ⟨_, rfl, HT9.out.imp (fun k hk => by omega), H9.out, HK9.out⟩
end Go.Proofs.YtpggfgjongkihaaGreat
