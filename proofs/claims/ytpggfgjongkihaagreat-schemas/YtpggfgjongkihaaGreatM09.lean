/- The reference's checks: scalar, member, core. The reference's checks: def, role, field. The reference's checks: apart. The reference's schema in memory; known. What a role has: the plain function. -/
import Derived.Test.YtpggfgjongkihaaGreatM08
import Derived.Test.YtpggfgjongkihaaGreatM04
namespace Go.Proofs.YtpggfgjongkihaaGreat
open Go.RowKit
def bString : ByteArray := ofB [83, 116, 114, 105, 110, 103]
def bBoolean : ByteArray := ofB [66, 111, 111, 108, 101, 97, 110]
def scalB (x : ByteArray) : Bool := decide (x = bInt) || decide (x = bString) || decide (x = bBoolean) || decide (x = bID)
theorem scalB_eq (x : ByteArray) : scalB x = ((x.toList == [73, 110, 116]) || (x.toList == [83, 116, 114, 105, 110, 103]) || (x.toList == [66, 111, 111, 108, 101, 97, 110]) || (x.toList == [73, 68])) := by
  rw [beq_lit, beq_lit, beq_lit, beq_lit]; rfl
set_option maxHeartbeats 1000000 in
theorem scalar_any (x : ByteArray) (w : World) : Calls Tryz.prog 75 #[.string x] w fun e w' => e = .returned (.bool (scalB x)) ∧ w' = w := by
  have HQ := hide (scalB_eq x)
  cases t1 : (x.toList == [73, 110, 116])
  · cases t2 : (x.toList == [83, 116, 114, 105, 110, 103])
    · cases t3 : (x.toList == [66, 111, 111, 108, 101, 97, 110])
      · cases t4 : (x.toList == [73, 68])
        · go_enter Tryz.func75, Tryz.ntmps75
          go_wp2
          go_ret
          exact ⟨ret_bool (by rw [HQ.out, t1, t2, t3, t4]; rfl), rfl⟩
        · go_enter Tryz.func75, Tryz.ntmps75
          go_wp2
          go_ret
          exact ⟨ret_bool (by rw [HQ.out, t1, t2, t3, t4]; rfl), rfl⟩
      · go_enter Tryz.func75, Tryz.ntmps75
        go_wp2
        go_ret
        exact ⟨ret_bool (by rw [HQ.out, t1, t2, t3]; rfl), rfl⟩
    · go_enter Tryz.func75, Tryz.ntmps75
      go_wp2
      go_ret
      exact ⟨ret_bool (by rw [HQ.out, t1, t2]; rfl), rfl⟩
  · go_enter Tryz.func75, Tryz.ntmps75
    go_wp2
    go_ret
    exact ⟨ret_bool (by rw [HQ.out, t1]; rfl), rfl⟩
/-- a slice that reads as these texts -/
def StrsAt (w : World) (v : Value) (l : List ByteArray) : Prop := ∃ a cap, v = .slice a l.length cap ∧ l.length ≤ cap ∧ (l = [] ∨ ∃ g off, a = some ⟨g, off, none⟩ ∧ ∀ j x, l[j]? = some x → w.cell? ⟨g, off + j, none⟩ = some (.string x))
def memB (x : ByteArray) (l : List ByteArray) : Bool := l.any fun y => decide (y = x)
theorem memB_true (x : ByteArray) (l : List ByteArray) : memB x l = true ↔ x ∈ l := by
  unfold memB
  rw [List.any_eq_true]
  constructor
  · rintro ⟨y, h1, h2⟩; simp only [decide_eq_true_eq] at h2; rw [← h2]; exact h1
  · intro h; exact ⟨x, h, by simp⟩
theorem memB_false (x : ByteArray) (l : List ByteArray) (h : ¬ x ∈ l) : memB x l = false := by
  cases hb : memB x l
  · rfl
  · exact absurd ((memB_true x l).1 hb) h
theorem StrsAt.of_own {w : World} {base : Nat} {v : Value} {l : List ByteArray} (h : w.ownsRow base 9 1 v l.length (strsV l)) : StrsAt w v l := by
  rcases h.2 with ⟨rfl, h0⟩ | ⟨g, cap, cur, rfl, hg, hh, h1, h2, h3, h4⟩
  · have : l = [] := List.eq_nil_of_length_eq_zero h0
    subst this
    exact ⟨none, 0, rfl, Nat.le_refl _, Or.inl rfl⟩
  · refine ⟨_, cap, rfl, h1, Or.inr ⟨g, 0, rfl, ?_⟩⟩
    intro j x hj
    have hjl : j < l.length := (List.getElem?_eq_some_iff.1 hj).1
    rw [Nat.zero_add, h.cellAt j (by omega)]
    simp [strsV, hj]
theorem StrsAt.below {w w' : World} {v : Value} {l : List ByteArray} (h : StrsAt w v l) (hb : Below w.heap.size w w') : StrsAt w' v l := by
  obtain ⟨a, cap, h1, h2, h3⟩ := h
  refine ⟨a, cap, h1, h2, ?_⟩
  rcases h3 with h3 | ⟨g, off, h3, h4⟩
  · exact Or.inl h3
  · refine Or.inr ⟨g, off, h3, fun j x hj => ?_⟩
    have hc := h4 j x hj
    rw [hb.cell (p := ⟨g, off + j, none⟩) (World.block_lt_of_cell? w _ hc)]; exact hc
set_option maxHeartbeats 1000000 in
theorem member_any (x : ByteArray) (v : Value) (l : List ByteArray) (w : World) (h : StrsAt w v l) (hl : l.length ≤ 1000000) :
    Calls Tryz.prog 86 #[.string x, v] w fun e w' => e = .returned (.bool (memB x l)) ∧ w' = w := by
  obtain ⟨a, cap, rfl, hcap, h3⟩ := h
  generalize hq : memB x l = q
  have HQ := hide hq
  have H3 := hide h3
  clear hq h3
  go_enter Tryz.func86, Tryz.ntmps86
  go_wp2_with fail
  go_loop [5] (fun i => ∃ k : Nat, k ≤ l.length ∧ i = .int .i64 k ∧ ∀ y ∈ l.take k, y ≠ x) (fun i => l.length - (intOf i).toNat)
  case atStart => exact ⟨0, Nat.zero_le _, rfl, by simp⟩
  case round =>
    obtain ⟨k, hk, rfl, hc⟩ := hrel
    have HC := hide hc
    clear hc
    by_cases hlt : k < l.length
    · obtain ⟨g, off, ha, h4⟩ : ∃ g off, a = some ⟨g, off, none⟩ ∧ ∀ j x, l[j]? = some x → w.cell? ⟨g, off + j, none⟩ = some (.string x) := by
        rcases H3.out with e | e
        · rw [e] at hlt; simp at hlt
        · exact e
      subst ha
      have hx := List.getElem?_eq_getElem hlt
      have hcell := h4 k _ hx
      have HX := hide hx
      clear h4 hx
      generalize l[k] = y at *
      cases hy : (y.toList == x.toList)
      · go_wp2
        go_round
        case rel => exact ⟨k + 1, by omega, by go_num, by
          rw [List.take_add_one, HX.out]
          intro z hz
          rcases List.mem_append.1 hz with hz | hz
          · exact HC.out z hz
          · simp at hz; subst hz; rw [beq_bytes] at hy; simpa using hy⟩
        case measure => simp [intOf]; omega
      · go_wp2
        go_ret
        exact ⟨ret_bool (by rw [← HQ.out]; rw [beq_bytes] at hy; simp only [decide_eq_true_eq] at hy; subst hy; exact ((memB_true _ _).2 (List.mem_of_getElem? HX.out)).symm), rfl⟩
    · go_wp2
      go_ret
      exact ⟨ret_bool (by
        rw [← HQ.out]
        have := HC.out
        rw [List.take_of_length_le (by omega)] at this
        exact (memB_false _ _ (fun hm => this x hm rfl)).symm), rfl⟩
def coreS (t : ByteArray) : ByteArray := ofB ((t.data.toList.dropWhile (· == 91)).take (runLen (t.data.toList.dropWhile (· == 91)) wordB))
set_option maxHeartbeats 1000000 in
theorem core_any (t : ByteArray) (w : World) (ht : t.size ≤ 100000) :
    Calls Tryz.prog 88 #[.string t] w fun e w' => e = .returned (.string (coreS t)) ∧ w' = w := by
  generalize hq : coreS t = q
  have HQ := hide hq
  clear hq
  go_enter Tryz.func88, Tryz.ntmps88
  go_wp2_with fail
  go_loop [0] (fun v => ∃ u : ByteArray, v = .string u ∧ u.size ≤ t.size ∧ t.data.toList.dropWhile (· == 91) = u.data.toList.dropWhile (· == 91)) (fun v => strLen v)
  case atStart => exact ⟨t, rfl, Nat.le_refl _, rfl⟩
  case round =>
    obtain ⟨u, rfl, hu, hrel⟩ := hrel
    have HR := hide hrel
    clear hrel
    by_cases h0 : 0 < u.size
    · cases h91 : ((u[0].toNat : Int) == 91)
      · have HD := hide (show t.data.toList.dropWhile (· == 91) = u.data.toList from by
          rw [HR.out, data_cons u h0, List.dropWhile_cons_of_neg (by intro e; simp only [beq_iff_eq] at e; rw [e] at h91; simp at h91)])
        have hkl := runLen_le u.data.toList wordB
        rw [Array.length_toList, show u.data.size = u.size from rfl] at hkl
        have HQ2 := hide (show q = u.extract 0 (runLen u.data.toList wordB) from by
          rw [← HQ.out]; unfold coreS; rw [HD.out]
          apply ByteArray.ext; apply Array.toList_inj.1; rw [ext_take]; simp [ofB])
        go_wp2_with fail
        refine (run_at u wordB 0 _ _ rfl (by omega) (by omega) (by decide)).mono ?_
        rw [List.drop_zero]
        rintro e w' ⟨rfl, rfl⟩
        generalize runLen u.data.toList wordB = m at *
        go_wp2_with fail
        go_ret
        exact ⟨by rw [HQ2.out]; rfl, rfl⟩
      · have HD := hide (show t.data.toList.dropWhile (· == 91) = (u.extract 1 u.size).data.toList.dropWhile (· == 91) from by
          rw [HR.out, data_cons u h0, List.dropWhile_cons_of_pos (by simp only [beq_iff_eq]; exact u8_of_int (by simpa using h91))])
        go_wp2_with fail
        go_round
        case rel => exact ⟨_, rfl, by simp; omega, HD.out⟩
        case measure => simp only [strLen_string, ByteArray.size_extract]; omega
    · have hun : u.data.toList = [] := List.eq_nil_of_length_eq_zero (show u.size = 0 by omega)
      have HU := hide hun
      have HQ2 := hide (show q = ByteArray.empty from by
        rw [← HQ.out]; unfold coreS; rw [HR.out, hun]; rfl)
      clear hun
      go_wp2_with fail
      refine (run_at u wordB 0 _ _ rfl (by omega) (by omega) (by decide)).mono ?_
      rw [List.drop_zero, HU.out]
      rintro e w' ⟨rfl, rfl⟩
      rw [show runLen [] wordB = 0 from rfl]
      go_wp2_with fail
      go_ret
      exact ⟨by rw [HQ2.out]; rfl, rfl⟩
end Go.Proofs.YtpggfgjongkihaaGreat
namespace Go.Proofs.YtpggfgjongkihaaGreat
open Go.RowKit
/-- the place of the first of these names, from n on; -1: none -/
def idxF : List ByteArray → ByteArray → Nat → Int
  | [], _, _ => -1
  | y :: l, x, n => if y = x then (n : Int) else idxF l x (n + 1)
def idxI (l : List ByteArray) (x : ByteArray) : Int := idxF l x 0
theorem idxF_none : ∀ (l : List ByteArray) (x : ByteArray) (n : Nat), (∀ y ∈ l, y ≠ x) → idxF l x n = -1
  | [], _, _, _ => rfl
  | y :: l, x, n, h => by
    rw [idxF, if_neg (h y (by simp)), idxF_none l x (n + 1) (fun z hz => h z (by simp [hz]))]
theorem idxF_at : ∀ (l : List ByteArray) (x : ByteArray) (n k : Nat), (∀ y ∈ l.take k, y ≠ x) → l[k]? = some x → idxF l x n = ((n + k : Nat) : Int)
  | [], _, _, _, _, h => by simp at h
  | y :: l, x, n, 0, _, h => by simp at h; rw [idxF, if_pos h]; rfl
  | y :: l, x, n, k + 1, h1, h => by
    rw [idxF, if_neg (h1 y (by simp)), idxF_at l x (n + 1) k (fun z hz => h1 z (by simp [hz])) (by simpa using h)]
    congr 1; omega
/-- a slice whose elements (so many cells each) have these names at this cell -/
def NamesAt (w : World) (v : Value) (stride off : Nat) (l : List ByteArray) : Prop := ∃ a cap, v = .slice a l.length cap ∧ (l = [] ∨ ∃ g, a = some ⟨g, 0, none⟩ ∧ ∀ j x, l[j]? = some x → w.cell? ⟨g, j * stride + off, none⟩ = some (.string x))
theorem NamesAt.below {w w' : World} {v : Value} {stride off : Nat} {l : List ByteArray} (h : NamesAt w v stride off l) (hb : Below w.heap.size w w') : NamesAt w' v stride off l := by
  obtain ⟨a, cap, h1, h3⟩ := h
  refine ⟨a, cap, h1, ?_⟩
  rcases h3 with h3 | ⟨g, h3, h4⟩
  · exact Or.inl h3
  · refine Or.inr ⟨g, h3, fun j x hj => ?_⟩
    have hc := h4 j x hj
    rw [hb.cell (p := ⟨g, j * stride + off, none⟩) (World.block_lt_of_cell? w _ hc)]; exact hc

set_option maxHeartbeats 1000000 in
theorem def_any (aR : Option Addr) (nR cR : Nat) (v : Value) (x : ByteArray) (l : List ByteArray) (w : World) (h : NamesAt w v 6 1 l) (hl : l.length ≤ 100000) :
    Calls Tryz.prog 74 #[.agg #[.slice aR nR cR, v], .string x] w fun e w' => e = .returned (.int .i64 (idxI l x)) ∧ Below w.heap.size w w' := by
  obtain ⟨a, cap, rfl, h3⟩ := h
  generalize hq : idxI l x = q
  have HQ := hide hq
  have H3 := hide h3
  clear hq h3
  go_enter Tryz.func74, Tryz.ntmps74
  go_wp2_with fail
  go_loop [5] (fun i => ∃ k : Nat, k ≤ l.length ∧ i = .int .i64 k ∧ ∀ y ∈ l.take k, y ≠ x) (fun i => l.length - (intOf i).toNat)
  case atStart => exact ⟨0, Nat.zero_le _, rfl, by simp⟩
  case round =>
    obtain ⟨k, hk, rfl, hc⟩ := hrel
    have HC := hide hc
    clear hc
    by_cases hlt : k < l.length
    · obtain ⟨g, ha, h4⟩ : ∃ g, a = some ⟨g, 0, none⟩ ∧ ∀ j x, l[j]? = some x → w.cell? ⟨g, j * 6 + 1, none⟩ = some (.string x) := by
        rcases H3.out with e | e
        · rw [e] at hlt; simp at hlt
        · exact e
      subst ha
      have hx := List.getElem?_eq_getElem hlt
      have hcell := h4 k _ hx
      have hg := World.block_lt_of_cell? w _ hcell
      simp only at hg
      skip
      have HX := hide hx
      clear h4 hx
      generalize l[k] = y at *
      cases hy : (y.toList == x.toList)
      · go_wp2
        go_round
        case rel => exact ⟨k + 1, by omega, by go_num, by
          rw [List.take_add_one, HX.out]
          intro z hz
          rcases List.mem_append.1 hz with hz | hz
          · exact HC.out z hz
          · simp at hz; subst hz; rw [beq_bytes] at hy; simpa using hy⟩
        case measure => simp [intOf]; omega
      · go_wp2
        go_ret
        exact ⟨ret_int (by rw [← HQ.out]; rw [beq_bytes] at hy; simp only [decide_eq_true_eq] at hy; subst hy; unfold idxI; rw [idxF_at l y 0 k HC.out HX.out]; simp), (Below.refl _ _).alloc (Nat.le_refl _) _⟩
    · go_wp2
      go_ret
      exact ⟨ret_int (by
        rw [← HQ.out]
        have := HC.out
        rw [List.take_of_length_le (by omega)] at this
        unfold idxI
        rw [idxF_none l x 0 this]), (Below.refl _ _).alloc (Nat.le_refl _) _⟩

set_option maxHeartbeats 1000000 in
theorem xrole_any (aR : Option Addr) (nR cR : Nat) (v : Value) (x : ByteArray) (l : List ByteArray) (w : World) (h : NamesAt w v 2 0 l) (hl : l.length ≤ 100000) :
    Calls Tryz.prog 28 #[.agg #[v, .slice aR nR cR], .string x] w fun e w' => e = .returned (.int .i64 (idxI l x)) ∧ Below w.heap.size w w' := by
  obtain ⟨a, cap, rfl, h3⟩ := h
  generalize hq : idxI l x = q
  have HQ := hide hq
  have H3 := hide h3
  clear hq h3
  go_enter Tryz.func28, Tryz.ntmps28
  go_wp2_with fail
  go_loop [5] (fun i => ∃ k : Nat, k ≤ l.length ∧ i = .int .i64 k ∧ ∀ y ∈ l.take k, y ≠ x) (fun i => l.length - (intOf i).toNat)
  case atStart => exact ⟨0, Nat.zero_le _, rfl, by simp⟩
  case round =>
    obtain ⟨k, hk, rfl, hc⟩ := hrel
    have HC := hide hc
    clear hc
    by_cases hlt : k < l.length
    · obtain ⟨g, ha, h4⟩ : ∃ g, a = some ⟨g, 0, none⟩ ∧ ∀ j x, l[j]? = some x → w.cell? ⟨g, j * 2 + 0, none⟩ = some (.string x) := by
        rcases H3.out with e | e
        · rw [e] at hlt; simp at hlt
        · exact e
      subst ha
      have hx := List.getElem?_eq_getElem hlt
      have hcell := h4 k _ hx
      have hg := World.block_lt_of_cell? w _ hcell
      simp only at hg
      simp only [Nat.add_zero] at hcell
      have HX := hide hx
      clear h4 hx
      generalize l[k] = y at *
      cases hy : (y.toList == x.toList)
      · go_wp2
        go_round
        case rel => exact ⟨k + 1, by omega, by go_num, by
          rw [List.take_add_one, HX.out]
          intro z hz
          rcases List.mem_append.1 hz with hz | hz
          · exact HC.out z hz
          · simp at hz; subst hz; rw [beq_bytes] at hy; simpa using hy⟩
        case measure => simp [intOf]; omega
      · go_wp2
        go_ret
        exact ⟨ret_int (by rw [← HQ.out]; rw [beq_bytes] at hy; simp only [decide_eq_true_eq] at hy; subst hy; unfold idxI; rw [idxF_at l y 0 k HC.out HX.out]; simp), (Below.refl _ _).alloc (Nat.le_refl _) _⟩
    · go_wp2
      go_ret
      exact ⟨ret_int (by
        rw [← HQ.out]
        have := HC.out
        rw [List.take_of_length_le (by omega)] at this
        unfold idxI
        rw [idxF_none l x 0 this]), (Below.refl _ _).alloc (Nat.le_refl _) _⟩

set_option maxHeartbeats 1000000 in
theorem dfield_any (so : Int) (na : ByteArray) (aA aR : Option Addr) (nA cA nR cR : Nat) (ru : Bool) (v : Value) (x : ByteArray) (l : List ByteArray) (w : World) (h : NamesAt w v 5 0 l) (hl : l.length ≤ 100000) :
    Calls Tryz.prog 49 #[.agg #[.int .i64 so, .string na, v, .slice aA nA cA, .bool ru, .slice aR nR cR], .string x] w fun e w' => e = .returned (.int .i64 (idxI l x)) ∧ Below w.heap.size w w' := by
  obtain ⟨a, cap, rfl, h3⟩ := h
  generalize hq : idxI l x = q
  have HQ := hide hq
  have H3 := hide h3
  clear hq h3
  go_enter Tryz.func49, Tryz.ntmps49
  go_wp2_with fail
  go_loop [5] (fun i => ∃ k : Nat, k ≤ l.length ∧ i = .int .i64 k ∧ ∀ y ∈ l.take k, y ≠ x) (fun i => l.length - (intOf i).toNat)
  case atStart => exact ⟨0, Nat.zero_le _, rfl, by simp⟩
  case round =>
    obtain ⟨k, hk, rfl, hc⟩ := hrel
    have HC := hide hc
    clear hc
    by_cases hlt : k < l.length
    · obtain ⟨g, ha, h4⟩ : ∃ g, a = some ⟨g, 0, none⟩ ∧ ∀ j x, l[j]? = some x → w.cell? ⟨g, j * 5 + 0, none⟩ = some (.string x) := by
        rcases H3.out with e | e
        · rw [e] at hlt; simp at hlt
        · exact e
      subst ha
      have hx := List.getElem?_eq_getElem hlt
      have hcell := h4 k _ hx
      have hg := World.block_lt_of_cell? w _ hcell
      simp only at hg
      simp only [Nat.add_zero] at hcell
      have HX := hide hx
      clear h4 hx
      generalize l[k] = y at *
      cases hy : (y.toList == x.toList)
      · go_wp2
        go_round
        case rel => exact ⟨k + 1, by omega, by go_num, by
          rw [List.take_add_one, HX.out]
          intro z hz
          rcases List.mem_append.1 hz with hz | hz
          · exact HC.out z hz
          · simp at hz; subst hz; rw [beq_bytes] at hy; simpa using hy⟩
        case measure => simp [intOf]; omega
      · go_wp2
        go_ret
        exact ⟨ret_int (by rw [← HQ.out]; rw [beq_bytes] at hy; simp only [decide_eq_true_eq] at hy; subst hy; unfold idxI; rw [idxF_at l y 0 k HC.out HX.out]; simp), (Below.refl _ _).alloc (Nat.le_refl _) _⟩
    · go_wp2
      go_ret
      exact ⟨ret_int (by
        rw [← HQ.out]
        have := HC.out
        rw [List.take_of_length_le (by omega)] at this
        unfold idxI
        rw [idxF_none l x 0 this]), (Below.refl _ _).alloc (Nat.le_refl _) _⟩
end Go.Proofs.YtpggfgjongkihaaGreat
namespace Go.Proofs.YtpggfgjongkihaaGreat
open Go.RowKit
/-- no text stands twice -/
def apartB (l : List ByteArray) : Bool := (List.range l.length).all fun i => !memB (l.getD i bE) (l.take i)
theorem apartB_true (l : List ByteArray) (h : ∀ i, i < l.length → memB (l.getD i bE) (l.take i) = false) : apartB l = true := by
  unfold apartB
  rw [List.all_eq_true]
  intro i hi
  rw [h i (List.mem_range.1 hi)]; rfl
theorem apartB_false (l : List ByteArray) (i : Nat) (hi : i < l.length) (h : memB (l.getD i bE) (l.take i) = true) : apartB l = false := by
  cases hb : apartB l
  · rfl
  · unfold apartB at hb
    rw [List.all_eq_true] at hb
    have := hb i (List.mem_range.2 hi)
    rw [h] at this; cases this
theorem StrsAt.take {w : World} {a : Option Addr} {cap : Nat} {l : List ByteArray} (h : StrsAt w (.slice a l.length cap) l) (k : Nat) (hk : k ≤ l.length) : StrsAt w (.slice a k cap) (l.take k) := by
  obtain ⟨a', cap', h1, h2, h3⟩ := h
  cases h1
  have hl : (l.take k).length = k := by simp; omega
  refine ⟨a, cap, by rw [hl], by omega, ?_⟩
  rcases h3 with h3 | ⟨g, off, h3, h4⟩
  · left; rw [h3]; simp
  · refine Or.inr ⟨g, off, h3, fun j x hj => h4 j x ?_⟩
    have hjk : j < k := by have := (List.getElem?_eq_some_iff.1 hj).1; omega
    rw [List.getElem?_take_of_lt hjk] at hj; exact hj
set_option maxHeartbeats 1000000 in
theorem apart_any (v : Value) (l : List ByteArray) (w : World) (h : StrsAt w v l) (hl : l.length ≤ 100000) :
    Calls Tryz.prog 77 #[v] w fun e w' => e = .returned (.bool (apartB l)) ∧ Below w.heap.size w w' := by
  have h0 := h
  obtain ⟨a, cap, rfl, hcap, _⟩ := h
  generalize hq : apartB l = q
  have HQ := hide hq
  have H0 := hide h0
  clear hq h0
  go_enter Tryz.func77, Tryz.ntmps77
  go_wp2_with fail
  go_loopw [3] (fun i wr => ∃ k : Nat, k ≤ l.length ∧ i = .int .i64 k ∧ (∀ j, j < k → memB (l.getD j bE) (l.take j) = false) ∧ Below w.heap.size w wr) (fun i _ => l.length - (intOf i).toNat)
  case atStart => exact ⟨0, Nat.zero_le _, rfl, fun j hj => absurd hj (by omega), Below.refl _ _⟩
  case round =>
    obtain ⟨k, hk, rfl, hc, hbel⟩ := hrel
    have HC := hide hc
    clear hc
    by_cases hlt : k < l.length
    · have hs := H0.out.below hbel
      have HS := hide (hs.take k hk)
      obtain ⟨a', cap', h1, _, h3⟩ := hs
      cases h1
      obtain ⟨g, off, ha, h4⟩ : ∃ g off, a = some ⟨g, off, none⟩ ∧ ∀ j x, l[j]? = some x → wr.cell? ⟨g, off + j, none⟩ = some (.string x) := by
        rcases h3 with e | e
        · rw [e] at hlt; simp at hlt
        · exact e
      subst ha
      have hx := List.getElem?_eq_getElem hlt
      have hcell := h4 k _ hx
      have HX := hide (show l.getD k bE = l[k] from by rw [List.getD_eq_getElem?_getD, hx]; rfl)
      clear h4 hx h3
      generalize l[k] = y at *
      have hm : ∀ n, Calls Tryz.prog 86 #[.string y, .slice (some ⟨g, off, none⟩) k cap] (wr.drewN n) fun e w' => e = .returned (.bool (memB y (l.take k))) ∧ w' = wr.drewN n := fun n =>
        member_any y _ _ _ (HS.out.below (below_drewN (Below.refl _ _) n)) (by simp; omega)
      go_wp2_with fail
      cases hy : memB y (l.take k)
      · rw [hy] at hm
        have HM := hide hm
        clear hm
        go_quiet ((go_at_call 86; exact Calls.quiet_of_same (HM.out _)))
        go_wp2_with fail
        go_roundw
        case rel => exact ⟨k + 1, by omega, by go_num, fun j hj => by
          by_cases e : j = k
          · subst e; rw [HX.out]; exact hy
          · exact HC.out j (by omega), below_drewN hbel _⟩
        case measure => simp [intOf]; omega
      · rw [hy] at hm
        have HM := hide hm
        clear hm
        go_quiet ((go_at_call 86; exact Calls.quiet_of_same (HM.out _)))
        go_wp2_with fail
        go_ret
        exact ⟨ret_bool (by rw [← HQ.out, apartB_false l k hlt (by rw [HX.out]; exact hy)]), below_drewN hbel _⟩
    · go_wp2_with fail
      go_ret
      exact ⟨ret_bool (by rw [← HQ.out, apartB_true l (fun i hi => HC.out i (by omega))]), hbel⟩
end Go.Proofs.YtpggfgjongkihaaGreat
namespace Go.Proofs.YtpggfgjongkihaaGreat
open Go.RowKit
def RolesAt (w : World) (v : Value) (l : List RRole) : Prop := ∃ a cap, v = .slice a l.length cap ∧ (l = [] ∨ ∃ g, a = some ⟨g, 0, none⟩ ∧ ∀ j r, l[j]? = some r → w.cell? ⟨g, j * 2, none⟩ = some (.string r.name) ∧ ∃ u, w.cell? ⟨g, j * 2 + 1, none⟩ = some u ∧ StrsAt w u r.inc)
def FldsAt (w : World) (v : Value) (l : List RFld) : Prop := ∃ a cap, v = .slice a l.length cap ∧ (l = [] ∨ ∃ g, a = some ⟨g, 0, none⟩ ∧ ∀ j f, l[j]? = some f → w.cell? ⟨g, j * 5, none⟩ = some (.string f.name) ∧ w.cell? ⟨g, j * 5 + 1, none⟩ = some (.string f.arg) ∧ w.cell? ⟨g, j * 5 + 2, none⟩ = some (.string f.ty) ∧ w.cell? ⟨g, j * 5 + 3, none⟩ = some (.string f.auth) ∧ w.cell? ⟨g, j * 5 + 4, none⟩ = some (.string f.hide_))
def DefsAt (w : World) (v : Value) (l : List RDef) : Prop := ∃ a cap, v = .slice a l.length cap ∧ (l = [] ∨ ∃ g, a = some ⟨g, 0, none⟩ ∧ ∀ j d, l[j]? = some d → w.cell? ⟨g, j * 6, none⟩ = some (.int .i64 d.sort) ∧ w.cell? ⟨g, j * 6 + 1, none⟩ = some (.string d.name) ∧ w.cell? ⟨g, j * 6 + 4, none⟩ = some (.bool d.ruled) ∧ ∃ vF vA vR, w.cell? ⟨g, j * 6 + 2, none⟩ = some vF ∧ w.cell? ⟨g, j * 6 + 3, none⟩ = some vA ∧ w.cell? ⟨g, j * 6 + 5, none⟩ = some vR ∧ FldsAt w vF d.fields ∧ StrsAt w vA d.above ∧ TokSl w vR d.rule)
theorem cell_below {w w' : World} {p : Addr} {u : Value} (hb : Below w.heap.size w w') (h : w.cell? p = some u) : w'.cell? p = some u := by
  rw [hb.cell (World.block_lt_of_cell? w _ h)]; exact h
theorem RolesAt.below {w w' : World} {v : Value} {l : List RRole} (h : RolesAt w v l) (hb : Below w.heap.size w w') : RolesAt w' v l := by
  obtain ⟨a, cap, h1, h3⟩ := h
  refine ⟨a, cap, h1, ?_⟩
  rcases h3 with h3 | ⟨g, h3, h4⟩
  · exact Or.inl h3
  · refine Or.inr ⟨g, h3, fun j r hj => ?_⟩
    obtain ⟨c0, u, c1, hs⟩ := h4 j r hj
    exact ⟨cell_below hb c0, u, cell_below hb c1, hs.below hb⟩
theorem FldsAt.below {w w' : World} {v : Value} {l : List RFld} (h : FldsAt w v l) (hb : Below w.heap.size w w') : FldsAt w' v l := by
  obtain ⟨a, cap, h1, h3⟩ := h
  refine ⟨a, cap, h1, ?_⟩
  rcases h3 with h3 | ⟨g, h3, h4⟩
  · exact Or.inl h3
  · refine Or.inr ⟨g, h3, fun j f hj => ?_⟩
    obtain ⟨c0, c1, c2, c3, c4⟩ := h4 j f hj
    exact ⟨cell_below hb c0, cell_below hb c1, cell_below hb c2, cell_below hb c3, cell_below hb c4⟩
theorem TokSl.below {w w' : World} {v : Value} {l : List Tk} (h : TokSl w v l) (hb : Below w.heap.size w w') : TokSl w' v l := by
  rcases h with h | ⟨g, off, cap, cur, h1, h2, h3⟩
  · exact Or.inl h
  · exact Or.inr ⟨g, off, cap, cur, h1, by rw [hb.block g (lt_of_block h2)]; exact h2, h3⟩
theorem DefsAt.below {w w' : World} {v : Value} {l : List RDef} (h : DefsAt w v l) (hb : Below w.heap.size w w') : DefsAt w' v l := by
  obtain ⟨a, cap, h1, h3⟩ := h
  refine ⟨a, cap, h1, ?_⟩
  rcases h3 with h3 | ⟨g, h3, h4⟩
  · exact Or.inl h3
  · refine Or.inr ⟨g, h3, fun j d hj => ?_⟩
    obtain ⟨c0, c1, c4, vF, vA, vR, c2, c3, c5, s1, s2, s3⟩ := h4 j d hj
    exact ⟨cell_below hb c0, cell_below hb c1, cell_below hb c4, vF, vA, vR, cell_below hb c2, cell_below hb c3, cell_below hb c5, s1.below hb, s2.below hb, s3.below hb⟩
theorem RolesAt.names {w : World} {v : Value} {l : List RRole} (h : RolesAt w v l) : NamesAt w v 2 0 (l.map RRole.name) := by
  obtain ⟨a, cap, h1, h3⟩ := h
  refine ⟨a, cap, by simpa using h1, ?_⟩
  rcases h3 with h3 | ⟨g, h3, h4⟩
  · left; simp [h3]
  · refine Or.inr ⟨g, h3, fun j x hj => ?_⟩
    rw [List.getElem?_map] at hj
    cases hr : l[j]? with
    | none => rw [hr] at hj; cases hj
    | some r => rw [hr] at hj; cases hj; exact (h4 j r hr).1
theorem DefsAt.names {w : World} {v : Value} {l : List RDef} (h : DefsAt w v l) : NamesAt w v 6 1 (l.map RDef.name) := by
  obtain ⟨a, cap, h1, h3⟩ := h
  refine ⟨a, cap, by simpa using h1, ?_⟩
  rcases h3 with h3 | ⟨g, h3, h4⟩
  · left; simp [h3]
  · refine Or.inr ⟨g, h3, fun j x hj => ?_⟩
    rw [List.getElem?_map] at hj
    cases hr : l[j]? with
    | none => rw [hr] at hj; cases hj
    | some r => rw [hr] at hj; cases hj; exact (h4 j r hr).2.1
theorem FldsAt.names {w : World} {v : Value} {l : List RFld} (h : FldsAt w v l) : NamesAt w v 5 0 (l.map RFld.name) := by
  obtain ⟨a, cap, h1, h3⟩ := h
  refine ⟨a, cap, by simpa using h1, ?_⟩
  rcases h3 with h3 | ⟨g, h3, h4⟩
  · left; simp [h3]
  · refine Or.inr ⟨g, h3, fun j x hj => ?_⟩
    rw [List.getElem?_map] at hj
    cases hr : l[j]? with
    | none => rw [hr] at hj; cases hj
    | some r => rw [hr] at hj; cases hj; exact (h4 j r hr).1
def knownB (roles : List RRole) (x : ByteArray) : Bool := decide (x = bE) || decide (0 ≤ idxI (roles.map RRole.name) x)
theorem empty_iff (x : ByteArray) : x.toList.isEmpty = decide (x = bE) := by
  rw [Bool.eq_iff_iff]
  simp only [List.isEmpty_iff, decide_eq_true_eq]
  constructor
  · intro h; apply ByteArray.ext; apply Array.toList_inj.1; rw [← Lib.toList_data, h]; rfl
  · intro h; rw [h, Lib.toList_data]; rfl
set_option maxHeartbeats 1000000 in
theorem known_any (aD : Option Addr) (nD cD : Nat) (v : Value) (x : ByteArray) (l : List RRole) (w : World) (h : RolesAt w v l) (hl : l.length ≤ 100000) :
    Calls Tryz.prog 109 #[.agg #[v, .slice aD nD cD], .string x] w fun e w' => e = .returned (.bool (knownB l x)) ∧ Below w.heap.size w w' := by
  have hq : knownB l x = (x.toList.isEmpty || decide (0 ≤ idxI (l.map RRole.name) x)) := by unfold knownB; rw [empty_iff]
  have HQ := hide hq
  clear hq
  have hc := fun o => xrole_any aD nD cD v x (l.map RRole.name) (w.alloc o) (h.names.below ((Below.refl _ _).alloc (Nat.le_refl _) o)) (by simpa using hl)
  obtain ⟨a, cap, rfl, _⟩ := h
  generalize idxI (l.map RRole.name) x = k at *
  cases he : x.toList.isEmpty
  · by_cases hk : 0 ≤ k
    · go_enter Tryz.func109, Tryz.ntmps109
      go_wp2_with fail
      refine (hc _).mono ?_
      clear hc
      rintro e w1 ⟨rfl, hb1⟩
      go_wp2_with fail
      go_ret
      exact ⟨ret_bool (by rw [HQ.out, he]; simp [hk]), ((Below.refl _ _).alloc (Nat.le_refl _) _).trans (hb1.mono (by simp))⟩
    · go_enter Tryz.func109, Tryz.ntmps109
      go_wp2_with fail
      refine (hc _).mono ?_
      clear hc
      rintro e w1 ⟨rfl, hb1⟩
      go_wp2_with fail
      go_ret
      exact ⟨ret_bool (by rw [HQ.out, he]; simp), ((Below.refl _ _).alloc (Nat.le_refl _) _).trans (hb1.mono (by simp))⟩
  · go_enter Tryz.func109, Tryz.ntmps109
    go_wp2_with fail
    go_ret
    exact ⟨ret_bool (by rw [HQ.out, he]; rfl), (Below.refl _ _).alloc (Nat.le_refl _) _⟩
end Go.Proofs.YtpggfgjongkihaaGreat
namespace Go.Proofs.YtpggfgjongkihaaGreat
open Go.RowKit
def missing (U l : List ByteArray) : Nat := (U.filter fun u => !memB u l).length
def addIn : List ByteArray → List ByteArray → List ByteArray
  | [], l => l
  | x :: r, l => addIn r (if memB x l = true then l else l ++ [x])
def incAt (roles : List RRole) (x : ByteArray) : List ByteArray :=
  if idxI (roles.map RRole.name) x < 0 then [] else ((roles[(idxI (roles.map RRole.name) x).toNat]?).map RRole.inc).getD []
def hadF (roles : List RRole) : Nat → Nat → List ByteArray → List ByteArray
  | 0, _, l => l
  | f + 1, i, l => match l[i]? with
    | none => l
    | some x => hadF roles f (i + 1) (addIn (incAt roles x) l)
def allInc (roles : List RRole) : List ByteArray := roles.flatMap RRole.inc
theorem memB_snoc (u x : ByteArray) (l : List ByteArray) : memB u (l ++ [x]) = (memB u l || decide (x = u)) := by
  unfold memB; rw [List.any_append]; simp
theorem missing_le (U l : List ByteArray) (x : ByteArray) : missing U (l ++ [x]) ≤ missing U l := by
  unfold missing
  induction U with
  | nil => simp
  | cons u U ih =>
    rw [List.filter_cons, List.filter_cons, memB_snoc]
    cases h1 : memB u l
    · cases h2 : decide (x = u)
      · simpa using ih
      · simp; omega
    · simpa using ih
theorem missing_lt (U l : List ByteArray) (x : ByteArray) (hx : x ∈ U) (hm : memB x l = false) : missing U (l ++ [x]) + 1 ≤ missing U l := by
  unfold missing
  induction U with
  | nil => cases hx
  | cons u U ih =>
    rw [List.filter_cons, List.filter_cons, memB_snoc]
    have hle := missing_le U l x
    unfold missing at hle
    by_cases e : x = u
    · subst e
      simp only [hm, decide_true, Bool.or_true, Bool.not_true, Bool.false_eq_true, if_false, Bool.not_false, if_true, List.length_cons]
      omega
    · have hxU : x ∈ U := by
        rcases List.mem_cons.1 hx with h | h
        · exact absurd h e
        · exact h
      have := ih hxU
      cases h1 : memB u l
      · simp [e]; omega
      · simpa [e] using this
/-- what is added is missed no more: the list and what is missing together do not grow -/
theorem addIn_bound (U : List ByteArray) : ∀ (inc l : List ByteArray), (∀ x ∈ inc, x ∈ U) → l.length ≤ (addIn inc l).length ∧ missing U (addIn inc l) + (addIn inc l).length ≤ missing U l + l.length
  | [], l, _ => ⟨Nat.le_refl _, Nat.le_refl _⟩
  | x :: r, l, h => by
    rw [addIn]
    have hr : ∀ y ∈ r, y ∈ U := fun y hy => h y (by simp [hy])
    by_cases hm : memB x l = true
    · rw [if_pos hm]; exact addIn_bound U r l hr
    · rw [if_neg hm]
      have h1 := addIn_bound U r (l ++ [x]) hr
      have h2 := missing_lt U l x (h x (by simp)) (by simpa using hm)
      simp only [List.length_append, List.length_cons, List.length_nil] at h1
      omega
theorem incAt_sub (roles : List RRole) (x : ByteArray) : ∀ y ∈ incAt roles x, y ∈ allInc roles := by
  intro y hy
  unfold incAt at hy
  split at hy
  · cases hy
  · cases hr : roles[(idxI (roles.map RRole.name) x).toNat]? with
    | none => rw [hr] at hy; cases hy
    | some r =>
      rw [hr] at hy
      exact List.mem_flatMap.2 ⟨r, List.mem_of_getElem? hr, hy⟩
def mu (roles : List RRole) (i : Nat) (l : List ByteArray) : Nat := missing (allInc roles) l + (l.length - i)
theorem mu_step (roles : List RRole) (i : Nat) (l : List ByteArray) (x : ByteArray) (h : l[i]? = some x) : mu roles (i + 1) (addIn (incAt roles x) l) < mu roles i l := by
  have hi : i < l.length := (List.getElem?_eq_some_iff.1 h).1
  have := addIn_bound (allInc roles) (incAt roles x) l (incAt_sub roles x)
  unfold mu
  omega
theorem hadF_fuel (roles : List RRole) : ∀ (f i : Nat) (l : List ByteArray), mu roles i l < f → hadF roles f i l = hadF roles (mu roles i l + 1) i l := by
  intro f
  induction f using Nat.strongRecOn with
  | _ f ih =>
    intro i l hf
    match f, hf with
    | f + 1, hf =>
      simp only [hadF]
      cases hx : l[i]? with
      | none => rfl
      | some x =>
        have hs := mu_step roles i l x hx
        simp only
        rw [ih f (by omega) _ _ (by omega)]
        by_cases e : mu roles i l = f
        · rw [e, ih f (by omega) _ _ (by omega)]
        · rw [ih (mu roles i l) (by omega) _ _ (by omega)]
theorem hadF_step (roles : List RRole) (i : Nat) (l : List ByteArray) (x : ByteArray) (h : l[i]? = some x) : hadF roles (mu roles i l + 1) i l = hadF roles (mu roles (i + 1) (addIn (incAt roles x) l) + 1) (i + 1) (addIn (incAt roles x) l) := by
  have hs := mu_step roles i l x h
  rw [hadF, h]
  simp only
  exact hadF_fuel roles _ _ _ hs
theorem hadF_end (roles : List RRole) (i : Nat) (l : List ByteArray) (h : l.length ≤ i) (f : Nat) : hadF roles (f + 1) i l = l := by
  rw [hadF, List.getElem?_eq_none h]
def hadR (roles : List RRole) (x : ByteArray) : List ByteArray := hadF roles (mu roles 0 [x] + 1) 0 [x]
theorem mu_len (roles : List RRole) (l : List ByteArray) : mu roles 0 l = missing (allInc roles) l + l.length := by unfold mu; omega
theorem missing_all (U l : List ByteArray) : missing U l ≤ U.length := List.length_filter_le _ _
end Go.Proofs.YtpggfgjongkihaaGreat
