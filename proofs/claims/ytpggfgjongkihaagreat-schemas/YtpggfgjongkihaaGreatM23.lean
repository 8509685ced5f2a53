/- The program's checks: finders. The program's checks: the schema's finders; Kind; markRight. The program's checks: types. The program's checks: fields. The program's checks: rules. -/
import Derived.Test.YtpggfgjongkihaaGreatM22
import Derived.BigQuiet
namespace Go.Proofs.YtpggfgjongkihaaGreat
open Go.RowKit
/-- a slice whose elements (so many cells each) begin with these names -/
def Rowed (w : World) (v : Value) (size : Nat) (l : List ByteArray) : Prop := ∃ a cap, v = .slice a l.length cap ∧ (l = [] ∨ ∃ g, a = some ⟨g, 0, none⟩ ∧ ∀ (j : Nat) (x : ByteArray), l[j]? = some x → w.cell? ⟨g, j * size, none⟩ = some (.string x) ∧ ∀ k, 0 < k → k < size → ∃ u, w.cell? ⟨g, j * size + k, none⟩ = some u)
theorem Rowed.below {w w' : World} {v : Value} {size : Nat} {l : List ByteArray} (h : Rowed w v size l) (hb : Below w.heap.size w w') : Rowed w' v size l := by
  obtain ⟨a, cap, h1, h3⟩ := h
  refine ⟨a, cap, h1, ?_⟩
  rcases h3 with h3 | ⟨g, h3, h4⟩
  · exact Or.inl h3
  · refine Or.inr ⟨g, h3, fun j x hj => ?_⟩
    obtain ⟨c0, cs⟩ := h4 j x hj
    exact ⟨cell_below hb c0, fun k h1 h2 => by obtain ⟨u, hu⟩ := cs k h1 h2; exact ⟨u, cell_below hb hu⟩⟩
set_option maxHeartbeats 400000 in
theorem called_any (w : World) (n : ByteArray) :
    Calls Tryz.prog 236 #[.agg #[.string n]] w fun e w' => e = .returned (.string n) ∧ Below w.heap.size w w' := by
  go_enter Tryz.func236, Tryz.ntmps236
  go_wp2_with fail
  go_ret
  exact ⟨rfl, (Below.refl _ _).alloc (Nat.le_refl _) _⟩
theorem World.size_alloc_drew (w : World) (o : Obj) : (w.alloc o).drew.heap.size = w.heap.size + 1 := by
  show (w.alloc o).heap.size = _
  simp
def ptrAt (v : Value) (size : Nat) (q : Int) : Value :=
  if q < 0 then .pointer none else match v with
    | .slice (some a) _ _ => .pointer (some ⟨a.block, q.toNat * size, none⟩)
    | _ => .pointer none
theorem idxF_bound : ∀ (l : List ByteArray) (x : ByteArray) (n : Nat), -1 ≤ idxF l x n ∧ idxF l x n < n + l.length
  | [], _, n => ⟨by simp [idxF], by simp [idxF]; omega⟩
  | y :: l, x, n => by
    rw [idxF]
    split
    · simp; omega
    · have := idxF_bound l x (n + 1)
      simp at *; omega
theorem idxI_bound (l : List ByteArray) (x : ByteArray) : -1 ≤ idxI l x ∧ idxI l x < l.length := by
  have := idxF_bound l x 0
  unfold idxI; simpa using this

theorem methRole (n : ByteArray) (u1 : Value) (W : World) : Sem.run Tryz.prog (method 416 154 (.agg #[.string n, u1]) "veil/schemas.called") W = .ok (236, .agg #[.string n]) W := by kernel_rfl
set_option maxHeartbeats 1000000 in
set_option maxRecDepth 100000 in
theorem cloRole_any (w : World) (Z : Nat) (x n : ByteArray) (u1 : Value) (hz : w.cell? ⟨Z, 0, none⟩ = some (.string x)) :
    Calls Tryz.prog 204 #[.agg #[.string n, u1], .pointer (some ⟨Z, 0, none⟩)] w fun e w' => e = .returned (.bool (n.toList == x.toList)) ∧ Below w.heap.size w w' := by
  have hzl := World.block_lt_of_cell? w _ hz
  simp only at hzl
  have HC := hide (fun W => called_any W n)
  have hmeth := fun W => methRole n u1 W
  go_enter Tryz.func204, Tryz.ntmps204
  go_wp2_with fail
  have hz2 : (w.alloc (.cells #[.string n, u1] 154)).cell? ⟨Z, 0, none⟩ = some (.string x) := cell_below ((Below.refl _ _).alloc (Nat.le_refl _) _) hz
  go_region_with (go_at_call 236; refine (HC.out _).mono ?_; rintro e w1 ⟨rfl, hb1⟩; have hz3 : w1.cell? ⟨Z, 0, none⟩ = some (.string x) := (hb1.cell (by simp; omega)).trans hz2)
  all_goals (
    go_wp2_with fail
    go_ret
    exact ⟨rfl, (((Below.refl w.heap.size w).alloc (Nat.le_refl _) (.cells #[.string n, u1] 154)).drew).trans (hb1.mono (by have := World.size_alloc_drew w (.cells #[.string n, u1] 154); omega))⟩)
set_option maxHeartbeats 1000000 in
set_option maxRecDepth 100000 in
theorem idxRole_any (w : World) (v : Value) (Z : Nat) (x : ByteArray) (l : List ByteArray) (h : Rowed w v 2 l) (hl : l.length ≤ 100000) (hz : w.cell? ⟨Z, 0, none⟩ = some (.string x)) :
    Calls Tryz.prog 203 #[v, .func (Fn.func 204) #[] #[.pointer (some ⟨Z, 0, none⟩)]] w fun e w' => e = .returned (.int .i64 (idxI l x)) ∧ Below w.heap.size w w' := by
  have H0 := hide h
  have HZ := hide hz
  obtain ⟨a, cap, rfl, _⟩ := h
  have hzl := World.block_lt_of_cell? w _ hz
  simp only at hzl
  generalize hq : idxI l x = q
  have HQ := hide hq
  clear hq hz
  go_enter Tryz.func203, Tryz.ntmps203
  go_wp2_with fail
  go_loopg [5, 8] l.length (fun m v5 v8 wr => ∃ k : Nat, v8 = .int .i64 k ∧ k ≤ l.length ∧ l.length - k ≤ m ∧ Below w.heap.size w wr ∧ ∀ y ∈ l.take k, y ≠ x)
  case atStart => exact ⟨0, rfl, Nat.zero_le _, by omega, Below.refl _ _, by simp⟩
  case round =>
    obtain ⟨k, rfl, hk, hm, hb, hc⟩ := hrel
    have HC := hide hc
    clear hc
    have hz := cell_below hb HZ.out
    by_cases hlt : k < l.length
    · obtain ⟨a', cap', e1, h3⟩ := H0.out.below hb
      cases e1
      obtain ⟨g, ha, h4⟩ : ∃ g, a = some ⟨g, 0, none⟩ ∧ ∀ (j : Nat) (x : ByteArray), l[j]? = some x → wr.cell? ⟨g, j * 2, none⟩ = some (.string x) ∧ ∀ k, 0 < k → k < 2 → ∃ u, wr.cell? ⟨g, j * 2 + k, none⟩ = some u := by
        rcases h3 with e | e
        · rw [e] at hlt; simp at hlt
        · exact e
      subst ha
      have hx := List.getElem?_eq_getElem hlt
      obtain ⟨hcell, hrest⟩ := h4 k _ hx
      obtain ⟨u1, hu1⟩ := hrest 1 (by decide) (by decide)
      have HX := hide hx
      clear h4 hx hrest h3
      generalize l[k] = y at *
      have hcl := cloRole_any wr Z x y u1 hz
      cases hy : (y.toList == x.toList)
      · rw [hy] at hcl
        have HY := hide hy
        clear hy
        go_wp2_with fail
        refine hcl.mono ?_
        clear hcl
        rintro e w1 ⟨rfl, hb1⟩
        have hbb := hb.trans (hb1.mono hb.size)
        clear hb1
        go_wp2_with fail
        go_roundg (l.length - (k + 1))
        case measure => omega
        case rel => exact ⟨k + 1, by go_num, by omega, Nat.le_refl _, hbb, by
          rw [List.take_add_one, HX.out]
          intro z hz
          rcases List.mem_append.1 hz with hz | hz
          · exact HC.out z hz
          · simp at hz; subst hz; have := HY.out; rw [beq_bytes] at this; simpa using this⟩
      · rw [hy] at hcl
        have HY := hide hy
        clear hy
        go_wp2_with fail
        refine hcl.mono ?_
        clear hcl
        rintro e w1 ⟨rfl, hb1⟩
        have hbb := hb.trans (hb1.mono hb.size)
        clear hb1
        go_wp2_with fail
        go_ret
        exact ⟨ret_int (by rw [← HQ.out]; have hy := HY.out; rw [beq_bytes] at hy; simp only [decide_eq_true_eq] at hy; subst hy; unfold idxI; rw [idxF_at l y 0 k HC.out HX.out]; simp), hbb⟩
    · go_wp2_with fail
      go_ret
      exact ⟨ret_int (by
        rw [← HQ.out]
        have := HC.out
        rw [List.take_of_length_le (by omega)] at this
        unfold idxI
        rw [idxF_none l x 0 this]), hb⟩
set_option maxHeartbeats 1000000 in
set_option maxRecDepth 100000 in
theorem findRole_any (w : World) (v : Value) (x : ByteArray) (l : List ByteArray) (h : Rowed w v 2 l) (hl : l.length ≤ 100000) :
    Calls Tryz.prog 177 #[v, .string x] w fun e w' => e = .returned (ptrAt v 2 (idxI l x)) ∧ Below w.heap.size w w' := by
  have hc := idxRole_any (w.alloc (.cells #[.string x] 9)) v w.heap.size x l (h.below ((Below.refl _ _).alloc (Nat.le_refl _) _)) hl (by simp)
  have hbd := idxI_bound l x
  obtain ⟨a, cap, rfl, h3⟩ := h
  generalize idxI l x = q at *
  by_cases hq : q < 0
  · rw [show ptrAt (.slice a l.length cap) 2 q = .pointer none from by unfold ptrAt; rw [if_pos hq]]
    go_enter Tryz.func177, Tryz.ntmps177
    go_wp2_with fail
    refine hc.mono ?_
    clear hc
    rintro e w1 ⟨rfl, hb1⟩
    go_wp2_with fail
    go_ret
    exact ⟨rfl, ((Below.refl _ _).alloc (Nat.le_refl _) _).trans (hb1.mono (by simp))⟩
  · obtain ⟨k, rfl⟩ : ∃ k : Nat, q = k := ⟨q.toNat, by omega⟩
    have hkl : k < l.length := by omega
    obtain ⟨g, ha⟩ : ∃ g, a = some ⟨g, 0, none⟩ := by
      rcases h3 with e | ⟨g, e, _⟩
      · rw [e] at hkl; simp at hkl
      · exact ⟨g, e⟩
    subst ha
    rw [show ptrAt (.slice (some ⟨g, 0, none⟩) l.length cap) 2 (k : Int) = .pointer (some ⟨g, k * 2, none⟩) from by unfold ptrAt; rw [if_neg hq]; simp]
    clear h3
    go_enter Tryz.func177, Tryz.ntmps177
    go_wp2_with fail
    refine hc.mono ?_
    clear hc
    rintro e w1 ⟨rfl, hb1⟩
    go_wp2_with fail
    go_ret
    exact ⟨rfl, ((Below.refl _ _).alloc (Nat.le_refl _) _).trans (hb1.mono (by simp))⟩

theorem methObject (n : ByteArray) (u1 u2 u3 : Value) (W : World) : Sem.run Tryz.prog (method 416 163 (.agg #[.string n, u1, u2, u3]) "veil/schemas.called") W = .ok (236, .agg #[.string n]) W := by kernel_rfl
set_option maxHeartbeats 1000000 in
set_option maxRecDepth 100000 in
theorem cloObject_any (w : World) (Z : Nat) (x n : ByteArray) (u1 u2 u3 : Value) (hz : w.cell? ⟨Z, 0, none⟩ = some (.string x)) :
    Calls Tryz.prog 180 #[.agg #[.string n, u1, u2, u3], .pointer (some ⟨Z, 0, none⟩)] w fun e w' => e = .returned (.bool (n.toList == x.toList)) ∧ Below w.heap.size w w' := by
  have hzl := World.block_lt_of_cell? w _ hz
  simp only at hzl
  have HC := hide (fun W => called_any W n)
  have hmeth := fun W => methObject n u1 u2 u3 W
  go_enter Tryz.func180, Tryz.ntmps180
  go_wp2_with fail
  have hz2 : (w.alloc (.cells #[.string n, u1, u2, u3] 163)).cell? ⟨Z, 0, none⟩ = some (.string x) := cell_below ((Below.refl _ _).alloc (Nat.le_refl _) _) hz
  go_region_with (go_at_call 236; refine (HC.out _).mono ?_; rintro e w1 ⟨rfl, hb1⟩; have hz3 : w1.cell? ⟨Z, 0, none⟩ = some (.string x) := (hb1.cell (by simp; omega)).trans hz2)
  all_goals (
    go_wp2_with fail
    go_ret
    exact ⟨rfl, (((Below.refl w.heap.size w).alloc (Nat.le_refl _) (.cells #[.string n, u1, u2, u3] 163)).drew).trans (hb1.mono (by have := World.size_alloc_drew w (.cells #[.string n, u1, u2, u3] 163); omega))⟩)
set_option maxHeartbeats 1000000 in
set_option maxRecDepth 100000 in
theorem idxObject_any (w : World) (v : Value) (Z : Nat) (x : ByteArray) (l : List ByteArray) (h : Rowed w v 4 l) (hl : l.length ≤ 100000) (hz : w.cell? ⟨Z, 0, none⟩ = some (.string x)) :
    Calls Tryz.prog 179 #[v, .func (Fn.func 180) #[] #[.pointer (some ⟨Z, 0, none⟩)]] w fun e w' => e = .returned (.int .i64 (idxI l x)) ∧ Below w.heap.size w w' := by
  have H0 := hide h
  have HZ := hide hz
  obtain ⟨a, cap, rfl, _⟩ := h
  have hzl := World.block_lt_of_cell? w _ hz
  simp only at hzl
  generalize hq : idxI l x = q
  have HQ := hide hq
  clear hq hz
  go_enter Tryz.func179, Tryz.ntmps179
  go_wp2_with fail
  go_loopg [5, 8] l.length (fun m v5 v8 wr => ∃ k : Nat, v8 = .int .i64 k ∧ k ≤ l.length ∧ l.length - k ≤ m ∧ Below w.heap.size w wr ∧ ∀ y ∈ l.take k, y ≠ x)
  case atStart => exact ⟨0, rfl, Nat.zero_le _, by omega, Below.refl _ _, by simp⟩
  case round =>
    obtain ⟨k, rfl, hk, hm, hb, hc⟩ := hrel
    have HC := hide hc
    clear hc
    have hz := cell_below hb HZ.out
    by_cases hlt : k < l.length
    · obtain ⟨a', cap', e1, h3⟩ := H0.out.below hb
      cases e1
      obtain ⟨g, ha, h4⟩ : ∃ g, a = some ⟨g, 0, none⟩ ∧ ∀ (j : Nat) (x : ByteArray), l[j]? = some x → wr.cell? ⟨g, j * 4, none⟩ = some (.string x) ∧ ∀ k, 0 < k → k < 4 → ∃ u, wr.cell? ⟨g, j * 4 + k, none⟩ = some u := by
        rcases h3 with e | e
        · rw [e] at hlt; simp at hlt
        · exact e
      subst ha
      have hx := List.getElem?_eq_getElem hlt
      obtain ⟨hcell, hrest⟩ := h4 k _ hx
      obtain ⟨u1, hu1⟩ := hrest 1 (by decide) (by decide)
      obtain ⟨u2, hu2⟩ := hrest 2 (by decide) (by decide)
      obtain ⟨u3, hu3⟩ := hrest 3 (by decide) (by decide)
      have HX := hide hx
      clear h4 hx hrest h3
      generalize l[k] = y at *
      have hcl := cloObject_any wr Z x y u1 u2 u3 hz
      cases hy : (y.toList == x.toList)
      · rw [hy] at hcl
        have HY := hide hy
        clear hy
        go_wp2_with fail
        refine hcl.mono ?_
        clear hcl
        rintro e w1 ⟨rfl, hb1⟩
        have hbb := hb.trans (hb1.mono hb.size)
        clear hb1
        go_wp2_with fail
        go_roundg (l.length - (k + 1))
        case measure => omega
        case rel => exact ⟨k + 1, by go_num, by omega, Nat.le_refl _, hbb, by
          rw [List.take_add_one, HX.out]
          intro z hz
          rcases List.mem_append.1 hz with hz | hz
          · exact HC.out z hz
          · simp at hz; subst hz; have := HY.out; rw [beq_bytes] at this; simpa using this⟩
      · rw [hy] at hcl
        have HY := hide hy
        clear hy
        go_wp2_with fail
        refine hcl.mono ?_
        clear hcl
        rintro e w1 ⟨rfl, hb1⟩
        have hbb := hb.trans (hb1.mono hb.size)
        clear hb1
        go_wp2_with fail
        go_ret
        exact ⟨ret_int (by rw [← HQ.out]; have hy := HY.out; rw [beq_bytes] at hy; simp only [decide_eq_true_eq] at hy; subst hy; unfold idxI; rw [idxF_at l y 0 k HC.out HX.out]; simp), hbb⟩
    · go_wp2_with fail
      go_ret
      exact ⟨ret_int (by
        rw [← HQ.out]
        have := HC.out
        rw [List.take_of_length_le (by omega)] at this
        unfold idxI
        rw [idxF_none l x 0 this]), hb⟩
set_option maxHeartbeats 1000000 in
set_option maxRecDepth 100000 in
theorem findObject_any (w : World) (v : Value) (x : ByteArray) (l : List ByteArray) (h : Rowed w v 4 l) (hl : l.length ≤ 100000) :
    Calls Tryz.prog 145 #[v, .string x] w fun e w' => e = .returned (ptrAt v 4 (idxI l x)) ∧ Below w.heap.size w w' := by
  have hc := idxObject_any (w.alloc (.cells #[.string x] 9)) v w.heap.size x l (h.below ((Below.refl _ _).alloc (Nat.le_refl _) _)) hl (by simp)
  have hbd := idxI_bound l x
  obtain ⟨a, cap, rfl, h3⟩ := h
  generalize idxI l x = q at *
  by_cases hq : q < 0
  · rw [show ptrAt (.slice a l.length cap) 4 q = .pointer none from by unfold ptrAt; rw [if_pos hq]]
    go_enter Tryz.func145, Tryz.ntmps145
    go_wp2_with fail
    refine hc.mono ?_
    clear hc
    rintro e w1 ⟨rfl, hb1⟩
    go_wp2_with fail
    go_ret
    exact ⟨rfl, ((Below.refl _ _).alloc (Nat.le_refl _) _).trans (hb1.mono (by simp))⟩
  · obtain ⟨k, rfl⟩ : ∃ k : Nat, q = k := ⟨q.toNat, by omega⟩
    have hkl : k < l.length := by omega
    obtain ⟨g, ha⟩ : ∃ g, a = some ⟨g, 0, none⟩ := by
      rcases h3 with e | ⟨g, e, _⟩
      · rw [e] at hkl; simp at hkl
      · exact ⟨g, e⟩
    subst ha
    rw [show ptrAt (.slice (some ⟨g, 0, none⟩) l.length cap) 4 (k : Int) = .pointer (some ⟨g, k * 4, none⟩) from by unfold ptrAt; rw [if_neg hq]; simp]
    clear h3
    go_enter Tryz.func145, Tryz.ntmps145
    go_wp2_with fail
    refine hc.mono ?_
    clear hc
    rintro e w1 ⟨rfl, hb1⟩
    go_wp2_with fail
    go_ret
    exact ⟨rfl, ((Below.refl _ _).alloc (Nat.le_refl _) _).trans (hb1.mono (by simp))⟩

theorem methIface (n : ByteArray) (u1 : Value) (W : World) : Sem.run Tryz.prog (method 416 197 (.agg #[.string n, u1]) "veil/schemas.called") W = .ok (236, .agg #[.string n]) W := by kernel_rfl
set_option maxHeartbeats 1000000 in
set_option maxRecDepth 100000 in
theorem cloIface_any (w : World) (Z : Nat) (x n : ByteArray) (u1 : Value) (hz : w.cell? ⟨Z, 0, none⟩ = some (.string x)) :
    Calls Tryz.prog 200 #[.agg #[.string n, u1], .pointer (some ⟨Z, 0, none⟩)] w fun e w' => e = .returned (.bool (n.toList == x.toList)) ∧ Below w.heap.size w w' := by
  have hzl := World.block_lt_of_cell? w _ hz
  simp only at hzl
  have HC := hide (fun W => called_any W n)
  have hmeth := fun W => methIface n u1 W
  go_enter Tryz.func200, Tryz.ntmps200
  go_wp2_with fail
  have hz2 : (w.alloc (.cells #[.string n, u1] 197)).cell? ⟨Z, 0, none⟩ = some (.string x) := cell_below ((Below.refl _ _).alloc (Nat.le_refl _) _) hz
  go_region_with (go_at_call 236; refine (HC.out _).mono ?_; rintro e w1 ⟨rfl, hb1⟩; have hz3 : w1.cell? ⟨Z, 0, none⟩ = some (.string x) := (hb1.cell (by simp; omega)).trans hz2)
  all_goals (
    go_wp2_with fail
    go_ret
    exact ⟨rfl, (((Below.refl w.heap.size w).alloc (Nat.le_refl _) (.cells #[.string n, u1] 197)).drew).trans (hb1.mono (by have := World.size_alloc_drew w (.cells #[.string n, u1] 197); omega))⟩)
set_option maxHeartbeats 1000000 in
set_option maxRecDepth 100000 in
theorem idxIface_any (w : World) (v : Value) (Z : Nat) (x : ByteArray) (l : List ByteArray) (h : Rowed w v 2 l) (hl : l.length ≤ 100000) (hz : w.cell? ⟨Z, 0, none⟩ = some (.string x)) :
    Calls Tryz.prog 199 #[v, .func (Fn.func 200) #[] #[.pointer (some ⟨Z, 0, none⟩)]] w fun e w' => e = .returned (.int .i64 (idxI l x)) ∧ Below w.heap.size w w' := by
  have H0 := hide h
  have HZ := hide hz
  obtain ⟨a, cap, rfl, _⟩ := h
  have hzl := World.block_lt_of_cell? w _ hz
  simp only at hzl
  generalize hq : idxI l x = q
  have HQ := hide hq
  clear hq hz
  go_enter Tryz.func199, Tryz.ntmps199
  go_wp2_with fail
  go_loopg [5, 8] l.length (fun m v5 v8 wr => ∃ k : Nat, v8 = .int .i64 k ∧ k ≤ l.length ∧ l.length - k ≤ m ∧ Below w.heap.size w wr ∧ ∀ y ∈ l.take k, y ≠ x)
  case atStart => exact ⟨0, rfl, Nat.zero_le _, by omega, Below.refl _ _, by simp⟩
  case round =>
    obtain ⟨k, rfl, hk, hm, hb, hc⟩ := hrel
    have HC := hide hc
    clear hc
    have hz := cell_below hb HZ.out
    by_cases hlt : k < l.length
    · obtain ⟨a', cap', e1, h3⟩ := H0.out.below hb
      cases e1
      obtain ⟨g, ha, h4⟩ : ∃ g, a = some ⟨g, 0, none⟩ ∧ ∀ (j : Nat) (x : ByteArray), l[j]? = some x → wr.cell? ⟨g, j * 2, none⟩ = some (.string x) ∧ ∀ k, 0 < k → k < 2 → ∃ u, wr.cell? ⟨g, j * 2 + k, none⟩ = some u := by
        rcases h3 with e | e
        · rw [e] at hlt; simp at hlt
        · exact e
      subst ha
      have hx := List.getElem?_eq_getElem hlt
      obtain ⟨hcell, hrest⟩ := h4 k _ hx
      obtain ⟨u1, hu1⟩ := hrest 1 (by decide) (by decide)
      have HX := hide hx
      clear h4 hx hrest h3
      generalize l[k] = y at *
      have hcl := cloIface_any wr Z x y u1 hz
      cases hy : (y.toList == x.toList)
      · rw [hy] at hcl
        have HY := hide hy
        clear hy
        go_wp2_with fail
        refine hcl.mono ?_
        clear hcl
        rintro e w1 ⟨rfl, hb1⟩
        have hbb := hb.trans (hb1.mono hb.size)
        clear hb1
        go_wp2_with fail
        go_roundg (l.length - (k + 1))
        case measure => omega
        case rel => exact ⟨k + 1, by go_num, by omega, Nat.le_refl _, hbb, by
          rw [List.take_add_one, HX.out]
          intro z hz
          rcases List.mem_append.1 hz with hz | hz
          · exact HC.out z hz
          · simp at hz; subst hz; have := HY.out; rw [beq_bytes] at this; simpa using this⟩
      · rw [hy] at hcl
        have HY := hide hy
        clear hy
        go_wp2_with fail
        refine hcl.mono ?_
        clear hcl
        rintro e w1 ⟨rfl, hb1⟩
        have hbb := hb.trans (hb1.mono hb.size)
        clear hb1
        go_wp2_with fail
        go_ret
        exact ⟨ret_int (by rw [← HQ.out]; have hy := HY.out; rw [beq_bytes] at hy; simp only [decide_eq_true_eq] at hy; subst hy; unfold idxI; rw [idxF_at l y 0 k HC.out HX.out]; simp), hbb⟩
    · go_wp2_with fail
      go_ret
      exact ⟨ret_int (by
        rw [← HQ.out]
        have := HC.out
        rw [List.take_of_length_le (by omega)] at this
        unfold idxI
        rw [idxF_none l x 0 this]), hb⟩
set_option maxHeartbeats 1000000 in
set_option maxRecDepth 100000 in
theorem findIface_any (w : World) (v : Value) (x : ByteArray) (l : List ByteArray) (h : Rowed w v 2 l) (hl : l.length ≤ 100000) :
    Calls Tryz.prog 174 #[v, .string x] w fun e w' => e = .returned (ptrAt v 2 (idxI l x)) ∧ Below w.heap.size w w' := by
  have hc := idxIface_any (w.alloc (.cells #[.string x] 9)) v w.heap.size x l (h.below ((Below.refl _ _).alloc (Nat.le_refl _) _)) hl (by simp)
  have hbd := idxI_bound l x
  obtain ⟨a, cap, rfl, h3⟩ := h
  generalize idxI l x = q at *
  by_cases hq : q < 0
  · rw [show ptrAt (.slice a l.length cap) 2 q = .pointer none from by unfold ptrAt; rw [if_pos hq]]
    go_enter Tryz.func174, Tryz.ntmps174
    go_wp2_with fail
    refine hc.mono ?_
    clear hc
    rintro e w1 ⟨rfl, hb1⟩
    go_wp2_with fail
    go_ret
    exact ⟨rfl, ((Below.refl _ _).alloc (Nat.le_refl _) _).trans (hb1.mono (by simp))⟩
  · obtain ⟨k, rfl⟩ : ∃ k : Nat, q = k := ⟨q.toNat, by omega⟩
    have hkl : k < l.length := by omega
    obtain ⟨g, ha⟩ : ∃ g, a = some ⟨g, 0, none⟩ := by
      rcases h3 with e | ⟨g, e, _⟩
      · rw [e] at hkl; simp at hkl
      · exact ⟨g, e⟩
    subst ha
    rw [show ptrAt (.slice (some ⟨g, 0, none⟩) l.length cap) 2 (k : Int) = .pointer (some ⟨g, k * 2, none⟩) from by unfold ptrAt; rw [if_neg hq]; simp]
    clear h3
    go_enter Tryz.func174, Tryz.ntmps174
    go_wp2_with fail
    refine hc.mono ?_
    clear hc
    rintro e w1 ⟨rfl, hb1⟩
    go_wp2_with fail
    go_ret
    exact ⟨rfl, ((Below.refl _ _).alloc (Nat.le_refl _) _).trans (hb1.mono (by simp))⟩

theorem methUnion (n : ByteArray) (u1 : Value) (W : World) : Sem.run Tryz.prog (method 416 200 (.agg #[.string n, u1]) "veil/schemas.called") W = .ok (236, .agg #[.string n]) W := by kernel_rfl
set_option maxHeartbeats 1000000 in
set_option maxRecDepth 100000 in
theorem cloUnion_any (w : World) (Z : Nat) (x n : ByteArray) (u1 : Value) (hz : w.cell? ⟨Z, 0, none⟩ = some (.string x)) :
    Calls Tryz.prog 215 #[.agg #[.string n, u1], .pointer (some ⟨Z, 0, none⟩)] w fun e w' => e = .returned (.bool (n.toList == x.toList)) ∧ Below w.heap.size w w' := by
  have hzl := World.block_lt_of_cell? w _ hz
  simp only at hzl
  have HC := hide (fun W => called_any W n)
  have hmeth := fun W => methUnion n u1 W
  go_enter Tryz.func215, Tryz.ntmps215
  go_wp2_with fail
  have hz2 : (w.alloc (.cells #[.string n, u1] 200)).cell? ⟨Z, 0, none⟩ = some (.string x) := cell_below ((Below.refl _ _).alloc (Nat.le_refl _) _) hz
  go_region_with (go_at_call 236; refine (HC.out _).mono ?_; rintro e w1 ⟨rfl, hb1⟩; have hz3 : w1.cell? ⟨Z, 0, none⟩ = some (.string x) := (hb1.cell (by simp; omega)).trans hz2)
  all_goals (
    go_wp2_with fail
    go_ret
    exact ⟨rfl, (((Below.refl w.heap.size w).alloc (Nat.le_refl _) (.cells #[.string n, u1] 200)).drew).trans (hb1.mono (by have := World.size_alloc_drew w (.cells #[.string n, u1] 200); omega))⟩)
set_option maxHeartbeats 1000000 in
set_option maxRecDepth 100000 in
theorem idxUnion_any (w : World) (v : Value) (Z : Nat) (x : ByteArray) (l : List ByteArray) (h : Rowed w v 2 l) (hl : l.length ≤ 100000) (hz : w.cell? ⟨Z, 0, none⟩ = some (.string x)) :
    Calls Tryz.prog 214 #[v, .func (Fn.func 215) #[] #[.pointer (some ⟨Z, 0, none⟩)]] w fun e w' => e = .returned (.int .i64 (idxI l x)) ∧ Below w.heap.size w w' := by
  have H0 := hide h
  have HZ := hide hz
  obtain ⟨a, cap, rfl, _⟩ := h
  have hzl := World.block_lt_of_cell? w _ hz
  simp only at hzl
  generalize hq : idxI l x = q
  have HQ := hide hq
  clear hq hz
  go_enter Tryz.func214, Tryz.ntmps214
  go_wp2_with fail
  go_loopg [5, 8] l.length (fun m v5 v8 wr => ∃ k : Nat, v8 = .int .i64 k ∧ k ≤ l.length ∧ l.length - k ≤ m ∧ Below w.heap.size w wr ∧ ∀ y ∈ l.take k, y ≠ x)
  case atStart => exact ⟨0, rfl, Nat.zero_le _, by omega, Below.refl _ _, by simp⟩
  case round =>
    obtain ⟨k, rfl, hk, hm, hb, hc⟩ := hrel
    have HC := hide hc
    clear hc
    have hz := cell_below hb HZ.out
    by_cases hlt : k < l.length
    · obtain ⟨a', cap', e1, h3⟩ := H0.out.below hb
      cases e1
      obtain ⟨g, ha, h4⟩ : ∃ g, a = some ⟨g, 0, none⟩ ∧ ∀ (j : Nat) (x : ByteArray), l[j]? = some x → wr.cell? ⟨g, j * 2, none⟩ = some (.string x) ∧ ∀ k, 0 < k → k < 2 → ∃ u, wr.cell? ⟨g, j * 2 + k, none⟩ = some u := by
        rcases h3 with e | e
        · rw [e] at hlt; simp at hlt
        · exact e
      subst ha
      have hx := List.getElem?_eq_getElem hlt
      obtain ⟨hcell, hrest⟩ := h4 k _ hx
      obtain ⟨u1, hu1⟩ := hrest 1 (by decide) (by decide)
      have HX := hide hx
      clear h4 hx hrest h3
      generalize l[k] = y at *
      have hcl := cloUnion_any wr Z x y u1 hz
      cases hy : (y.toList == x.toList)
      · rw [hy] at hcl
        have HY := hide hy
        clear hy
        go_wp2_with fail
        refine hcl.mono ?_
        clear hcl
        rintro e w1 ⟨rfl, hb1⟩
        have hbb := hb.trans (hb1.mono hb.size)
        clear hb1
        go_wp2_with fail
        go_roundg (l.length - (k + 1))
        case measure => omega
        case rel => exact ⟨k + 1, by go_num, by omega, Nat.le_refl _, hbb, by
          rw [List.take_add_one, HX.out]
          intro z hz
          rcases List.mem_append.1 hz with hz | hz
          · exact HC.out z hz
          · simp at hz; subst hz; have := HY.out; rw [beq_bytes] at this; simpa using this⟩
      · rw [hy] at hcl
        have HY := hide hy
        clear hy
        go_wp2_with fail
        refine hcl.mono ?_
        clear hcl
        rintro e w1 ⟨rfl, hb1⟩
        have hbb := hb.trans (hb1.mono hb.size)
        clear hb1
        go_wp2_with fail
        go_ret
        exact ⟨ret_int (by rw [← HQ.out]; have hy := HY.out; rw [beq_bytes] at hy; simp only [decide_eq_true_eq] at hy; subst hy; unfold idxI; rw [idxF_at l y 0 k HC.out HX.out]; simp), hbb⟩
    · go_wp2_with fail
      go_ret
      exact ⟨ret_int (by
        rw [← HQ.out]
        have := HC.out
        rw [List.take_of_length_le (by omega)] at this
        unfold idxI
        rw [idxF_none l x 0 this]), hb⟩
set_option maxHeartbeats 1000000 in
set_option maxRecDepth 100000 in
theorem findUnion_any (w : World) (v : Value) (x : ByteArray) (l : List ByteArray) (h : Rowed w v 2 l) (hl : l.length ≤ 100000) :
    Calls Tryz.prog 205 #[v, .string x] w fun e w' => e = .returned (ptrAt v 2 (idxI l x)) ∧ Below w.heap.size w w' := by
  have hc := idxUnion_any (w.alloc (.cells #[.string x] 9)) v w.heap.size x l (h.below ((Below.refl _ _).alloc (Nat.le_refl _) _)) hl (by simp)
  have hbd := idxI_bound l x
  obtain ⟨a, cap, rfl, h3⟩ := h
  generalize idxI l x = q at *
  by_cases hq : q < 0
  · rw [show ptrAt (.slice a l.length cap) 2 q = .pointer none from by unfold ptrAt; rw [if_pos hq]]
    go_enter Tryz.func205, Tryz.ntmps205
    go_wp2_with fail
    refine hc.mono ?_
    clear hc
    rintro e w1 ⟨rfl, hb1⟩
    go_wp2_with fail
    go_ret
    exact ⟨rfl, ((Below.refl _ _).alloc (Nat.le_refl _) _).trans (hb1.mono (by simp))⟩
  · obtain ⟨k, rfl⟩ : ∃ k : Nat, q = k := ⟨q.toNat, by omega⟩
    have hkl : k < l.length := by omega
    obtain ⟨g, ha⟩ : ∃ g, a = some ⟨g, 0, none⟩ := by
      rcases h3 with e | ⟨g, e, _⟩
      · rw [e] at hkl; simp at hkl
      · exact ⟨g, e⟩
    subst ha
    rw [show ptrAt (.slice (some ⟨g, 0, none⟩) l.length cap) 2 (k : Int) = .pointer (some ⟨g, k * 2, none⟩) from by unfold ptrAt; rw [if_neg hq]; simp]
    clear h3
    go_enter Tryz.func205, Tryz.ntmps205
    go_wp2_with fail
    refine hc.mono ?_
    clear hc
    rintro e w1 ⟨rfl, hb1⟩
    go_wp2_with fail
    go_ret
    exact ⟨rfl, ((Below.refl _ _).alloc (Nat.le_refl _) _).trans (hb1.mono (by simp))⟩

theorem methField (n : ByteArray) (u1 u2 u3 u4 u5 : Value) (W : World) : Sem.run Tryz.prog (method 416 180 (.agg #[.string n, u1, u2, u3, u4, u5]) "veil/schemas.called") W = .ok (236, .agg #[.string n]) W := by kernel_rfl
set_option maxHeartbeats 1000000 in
set_option maxRecDepth 100000 in
theorem cloField_any (w : World) (Z : Nat) (x n : ByteArray) (u1 u2 u3 u4 u5 : Value) (hz : w.cell? ⟨Z, 0, none⟩ = some (.string x)) :
    Calls Tryz.prog 202 #[.agg #[.string n, u1, u2, u3, u4, u5], .pointer (some ⟨Z, 0, none⟩)] w fun e w' => e = .returned (.bool (n.toList == x.toList)) ∧ Below w.heap.size w w' := by
  have hzl := World.block_lt_of_cell? w _ hz
  simp only at hzl
  have HC := hide (fun W => called_any W n)
  have hmeth := fun W => methField n u1 u2 u3 u4 u5 W
  go_enter Tryz.func202, Tryz.ntmps202
  go_wp2_with fail
  have hz2 : (w.alloc (.cells #[.string n, u1, u2, u3, u4, u5] 180)).cell? ⟨Z, 0, none⟩ = some (.string x) := cell_below ((Below.refl _ _).alloc (Nat.le_refl _) _) hz
  go_region_with (go_at_call 236; refine (HC.out _).mono ?_; rintro e w1 ⟨rfl, hb1⟩; have hz3 : w1.cell? ⟨Z, 0, none⟩ = some (.string x) := (hb1.cell (by simp; omega)).trans hz2)
  all_goals (
    go_wp2_with fail
    go_ret
    exact ⟨rfl, (((Below.refl w.heap.size w).alloc (Nat.le_refl _) (.cells #[.string n, u1, u2, u3, u4, u5] 180)).drew).trans (hb1.mono (by have := World.size_alloc_drew w (.cells #[.string n, u1, u2, u3, u4, u5] 180); omega))⟩)
set_option maxHeartbeats 1000000 in
set_option maxRecDepth 100000 in
theorem idxField_any (w : World) (v : Value) (Z : Nat) (x : ByteArray) (l : List ByteArray) (h : Rowed w v 6 l) (hl : l.length ≤ 100000) (hz : w.cell? ⟨Z, 0, none⟩ = some (.string x)) :
    Calls Tryz.prog 201 #[v, .func (Fn.func 202) #[] #[.pointer (some ⟨Z, 0, none⟩)]] w fun e w' => e = .returned (.int .i64 (idxI l x)) ∧ Below w.heap.size w w' := by
  have H0 := hide h
  have HZ := hide hz
  obtain ⟨a, cap, rfl, _⟩ := h
  have hzl := World.block_lt_of_cell? w _ hz
  simp only at hzl
  generalize hq : idxI l x = q
  have HQ := hide hq
  clear hq hz
  go_enter Tryz.func201, Tryz.ntmps201
  go_wp2_with fail
  go_loopg [5, 8] l.length (fun m v5 v8 wr => ∃ k : Nat, v8 = .int .i64 k ∧ k ≤ l.length ∧ l.length - k ≤ m ∧ Below w.heap.size w wr ∧ ∀ y ∈ l.take k, y ≠ x)
  case atStart => exact ⟨0, rfl, Nat.zero_le _, by omega, Below.refl _ _, by simp⟩
  case round =>
    obtain ⟨k, rfl, hk, hm, hb, hc⟩ := hrel
    have HC := hide hc
    clear hc
    have hz := cell_below hb HZ.out
    by_cases hlt : k < l.length
    · obtain ⟨a', cap', e1, h3⟩ := H0.out.below hb
      cases e1
      obtain ⟨g, ha, h4⟩ : ∃ g, a = some ⟨g, 0, none⟩ ∧ ∀ (j : Nat) (x : ByteArray), l[j]? = some x → wr.cell? ⟨g, j * 6, none⟩ = some (.string x) ∧ ∀ k, 0 < k → k < 6 → ∃ u, wr.cell? ⟨g, j * 6 + k, none⟩ = some u := by
        rcases h3 with e | e
        · rw [e] at hlt; simp at hlt
        · exact e
      subst ha
      have hx := List.getElem?_eq_getElem hlt
      obtain ⟨hcell, hrest⟩ := h4 k _ hx
      obtain ⟨u1, hu1⟩ := hrest 1 (by decide) (by decide)
      obtain ⟨u2, hu2⟩ := hrest 2 (by decide) (by decide)
      obtain ⟨u3, hu3⟩ := hrest 3 (by decide) (by decide)
      obtain ⟨u4, hu4⟩ := hrest 4 (by decide) (by decide)
      obtain ⟨u5, hu5⟩ := hrest 5 (by decide) (by decide)
      have HX := hide hx
      clear h4 hx hrest h3
      generalize l[k] = y at *
      have hcl := cloField_any wr Z x y u1 u2 u3 u4 u5 hz
      cases hy : (y.toList == x.toList)
      · rw [hy] at hcl
        have HY := hide hy
        clear hy
        go_wp2_with fail
        refine hcl.mono ?_
        clear hcl
        rintro e w1 ⟨rfl, hb1⟩
        have hbb := hb.trans (hb1.mono hb.size)
        clear hb1
        go_wp2_with fail
        go_roundg (l.length - (k + 1))
        case measure => omega
        case rel => exact ⟨k + 1, by go_num, by omega, Nat.le_refl _, hbb, by
          rw [List.take_add_one, HX.out]
          intro z hz
          rcases List.mem_append.1 hz with hz | hz
          · exact HC.out z hz
          · simp at hz; subst hz; have := HY.out; rw [beq_bytes] at this; simpa using this⟩
      · rw [hy] at hcl
        have HY := hide hy
        clear hy
        go_wp2_with fail
        refine hcl.mono ?_
        clear hcl
        rintro e w1 ⟨rfl, hb1⟩
        have hbb := hb.trans (hb1.mono hb.size)
        clear hb1
        go_wp2_with fail
        go_ret
        exact ⟨ret_int (by rw [← HQ.out]; have hy := HY.out; rw [beq_bytes] at hy; simp only [decide_eq_true_eq] at hy; subst hy; unfold idxI; rw [idxF_at l y 0 k HC.out HX.out]; simp), hbb⟩
    · go_wp2_with fail
      go_ret
      exact ⟨ret_int (by
        rw [← HQ.out]
        have := HC.out
        rw [List.take_of_length_le (by omega)] at this
        unfold idxI
        rw [idxF_none l x 0 this]), hb⟩
set_option maxHeartbeats 1000000 in
set_option maxRecDepth 100000 in
theorem findField_any (w : World) (v : Value) (x : ByteArray) (l : List ByteArray) (h : Rowed w v 6 l) (hl : l.length ≤ 100000) :
    Calls Tryz.prog 175 #[v, .string x] w fun e w' => e = .returned (ptrAt v 6 (idxI l x)) ∧ Below w.heap.size w w' := by
  have hc := idxField_any (w.alloc (.cells #[.string x] 9)) v w.heap.size x l (h.below ((Below.refl _ _).alloc (Nat.le_refl _) _)) hl (by simp)
  have hbd := idxI_bound l x
  obtain ⟨a, cap, rfl, h3⟩ := h
  generalize idxI l x = q at *
  by_cases hq : q < 0
  · rw [show ptrAt (.slice a l.length cap) 6 q = .pointer none from by unfold ptrAt; rw [if_pos hq]]
    go_enter Tryz.func175, Tryz.ntmps175
    go_wp2_with fail
    refine hc.mono ?_
    clear hc
    rintro e w1 ⟨rfl, hb1⟩
    go_wp2_with fail
    go_ret
    exact ⟨rfl, ((Below.refl _ _).alloc (Nat.le_refl _) _).trans (hb1.mono (by simp))⟩
  · obtain ⟨k, rfl⟩ : ∃ k : Nat, q = k := ⟨q.toNat, by omega⟩
    have hkl : k < l.length := by omega
    obtain ⟨g, ha⟩ : ∃ g, a = some ⟨g, 0, none⟩ := by
      rcases h3 with e | ⟨g, e, _⟩
      · rw [e] at hkl; simp at hkl
      · exact ⟨g, e⟩
    subst ha
    rw [show ptrAt (.slice (some ⟨g, 0, none⟩) l.length cap) 6 (k : Int) = .pointer (some ⟨g, k * 6, none⟩) from by unfold ptrAt; rw [if_neg hq]; simp]
    clear h3
    go_enter Tryz.func175, Tryz.ntmps175
    go_wp2_with fail
    refine hc.mono ?_
    clear hc
    rintro e w1 ⟨rfl, hb1⟩
    go_wp2_with fail
    go_ret
    exact ⟨rfl, ((Below.refl _ _).alloc (Nat.le_refl _) _).trans (hb1.mono (by simp))⟩
end Go.Proofs.YtpggfgjongkihaaGreat
namespace Go.Proofs.YtpggfgjongkihaaGreat
open Go.RowKit
/-- the schema in memory, laid open -/
structure SV (w : World) (S : Nat) (vR vO vI vU vN : Value) (LR : List (RRole × Value)) (LO : List (PObj × Value × Value × Value)) (LI : List (PIf × Value)) (LU : List (PUn × Value)) (names : List ByteArray) : Prop where
  sc : SC w S vR vO vI vU vN
  r : RowG w S 154 2 vR flR (okR S) LR
  o : RowG w S 163 4 vO flO (okO S) LO
  i : RowG w S 197 2 vI flI (okI S) LI
  u : RowG w S 200 2 vU flU (okU S) LU
  n : w.ownsRow S 152 1 vN names.length (strsV names)
  lr : LR.length ≤ 804
  lo : LO.length ≤ 804
  li : LI.length ≤ 804
  lu : LU.length ≤ 804
  ln : names.length ≤ 804
theorem SV.below {w w' : World} {S : Nat} {vR vO vI vU vN : Value} {LR : List (RRole × Value)} {LO : List (PObj × Value × Value × Value)} {LI : List (PIf × Value)} {LU : List (PUn × Value)} {names : List ByteArray} (h : SV w S vR vO vI vU vN LR LO LI LU names) (hb : Below w.heap.size w w') : SV w' S vR vO vI vU vN LR LO LI LU names := by
  have hin : Inner S w w' := (KeepY.of_below (b := 0) (S := 0) hb).inner
  exact ⟨(hb.block S (lt_of_block h.sc)).trans h.sc, h.r.stays (Stay.of_below hb) (fun x hx => okR.stays hin hx), h.o.stays (Stay.of_below hb) (fun x hx => okO.stays hin hx), h.i.stays (Stay.of_below hb) (fun x hx => okI.stays hin hx), h.u.stays (Stay.of_below hb) (fun x hx => okU.stays hin hx), ownsRow_below h.n hb, h.lr, h.lo, h.li, h.lu, h.ln⟩
theorem flat_at {β : Type} (flat : β → List Value) (size : Nat) (hf : ∀ x, (flat x).length = size) : ∀ (L : List β) (j k : Nat) (x : β), L[j]? = some x → k < size → (L.flatMap flat)[j * size + k]? = (flat x)[k]?
  | [], j, k, x, h, _ => by simp at h
  | y :: L, 0, k, x, h, hk => by
    simp at h; subst h
    rw [List.flatMap_cons, List.getElem?_append_left (by rw [hf]; omega)]; simp
  | y :: L, j + 1, k, x, h, hk => by
    rw [List.flatMap_cons, List.getElem?_append_right (by rw [hf, Nat.succ_mul]; omega), hf]
    rw [show (j + 1) * size + k - size = j * size + k by rw [Nat.succ_mul]; omega]
    exact flat_at flat size hf L j k x (by simpa using h) hk
/-- the cells of an element of a row -/
theorem RowG.cell {β : Type} {w : World} {B e size : Nat} {v : Value} {flat : β → List Value} {ok : World → β → Prop} {L : List β} (h : RowG w B e size v flat ok L) (hf : ∀ x, (flat x).length = size) (j : Nat) (x : β) (hx : L[j]? = some x) : ∃ g cap, v = .slice (some ⟨g, 0, none⟩) L.length cap ∧ ∀ k u, (flat x)[k]? = some u → w.cell? ⟨g, j * size + k, none⟩ = some u := by
  have hj := (List.getElem?_eq_some_iff.1 hx).1
  rcases h.own.2 with ⟨_, y⟩ | ⟨g, cap, cur, hv, hg, hh, hn, _, hs, ht⟩
  · omega
  · refine ⟨g, cap, hv, fun k u hu => ?_⟩
    have hk : k < size := by have := (List.getElem?_eq_some_iff.1 hu).1; rw [hf] at this; exact this
    have h1 := flat_at flat size hf L j k x hx hk
    rw [← ht, hu] at h1
    rw [cell_of_block hh]
    rw [List.getElem?_take] at h1
    split at h1
    · simpa using h1
    · cases h1
theorem RowG.rowed {β : Type} {w : World} {B e size : Nat} {v : Value} {flat : β → List Value} {ok : World → β → Prop} {L : List β} (h : RowG w B e size v flat ok L) (nmOf : β → ByteArray) (hf : ∀ x, (flat x).length = size) (h0 : ∀ x, (flat x)[0]? = some (.string (nmOf x))) : Rowed w v size (L.map nmOf) := by
  obtain ⟨a, cap, hv⟩ := own_slice h.own
  refine ⟨a, cap, by simpa using hv, ?_⟩
  cases hL : L with
  | nil => left; rfl
  | cons y l =>
    right
    obtain ⟨g, cap', hv', _⟩ := h.cell hf 0 y (by rw [hL]; rfl)
    rw [hv] at hv'
    cases hv'
    refine ⟨g, rfl, fun j x hx => ?_⟩
    rw [← hL, List.getElem?_map] at hx
    cases hz : L[j]? with
    | none => rw [hz] at hx; cases hx
    | some z =>
      rw [hz] at hx; cases hx
      obtain ⟨g2, cap2, hv2, hc⟩ := h.cell hf j z hz
      rw [hv] at hv2
      cases hv2
      refine ⟨by have := hc 0 _ (h0 z); simpa using this, fun k _ hk => ?_⟩
      have : k < (flat z).length := by rw [hf]; exact hk
      exact ⟨_, hc k _ (List.getElem?_eq_getElem this)⟩
def rN (x : RRole × Value) : ByteArray := x.1.name
def oN (x : PObj × Value × Value × Value) : ByteArray := x.1.name
def iN (x : PIf × Value) : ByteArray := x.1.name
def uN (x : PUn × Value) : ByteArray := x.1.name
theorem ptrAt_nil {w : World} {v : Value} {size : Nat} {l : List ByteArray} (h : Rowed w v size l) (x : ByteArray) : (idxI l x < 0 → ptrAt v size (idxI l x) = .pointer none) ∧ (¬ idxI l x < 0 → ∃ a, ptrAt v size (idxI l x) = .pointer (some a)) := by
  obtain ⟨a, cap, rfl, h3⟩ := h
  refine ⟨fun hq => by unfold ptrAt; rw [if_pos hq], fun hq => ?_⟩
  have hb := idxI_bound l x
  rcases h3 with e | ⟨g, e, _⟩
  · subst e; simp at hb; omega
  · subst e; unfold ptrAt; rw [if_neg hq]; exact ⟨_, rfl⟩
abbrev SVP := List (RRole × Value)
set_option maxHeartbeats 1000000 in
theorem isScalar_any (x : ByteArray) (w : World) : Calls Tryz.prog 99 #[.string x] w fun e w' => e = .returned (.bool (scalB x)) ∧ w' = w := by
  have HQ := hide (scalB_eq x)
  cases t1 : (x.toList == [73, 110, 116])
  · cases t2 : (x.toList == [83, 116, 114, 105, 110, 103])
    · cases t3 : (x.toList == [66, 111, 111, 108, 101, 97, 110])
      · cases t4 : (x.toList == [73, 68])
        · go_enter Tryz.func99, Tryz.ntmps99
          go_wp2
          go_ret
          exact ⟨ret_bool (by rw [HQ.out, t1, t2, t3, t4]; rfl), rfl⟩
        · go_enter Tryz.func99, Tryz.ntmps99
          go_wp2
          go_ret
          exact ⟨ret_bool (by rw [HQ.out, t1, t2, t3, t4]; rfl), rfl⟩
      · go_enter Tryz.func99, Tryz.ntmps99
        go_wp2
        go_ret
        exact ⟨ret_bool (by rw [HQ.out, t1, t2, t3]; rfl), rfl⟩
    · go_enter Tryz.func99, Tryz.ntmps99
      go_wp2
      go_ret
      exact ⟨ret_bool (by rw [HQ.out, t1, t2]; rfl), rfl⟩
  · go_enter Tryz.func99, Tryz.ntmps99
    go_wp2
    go_ret
    exact ⟨ret_bool (by rw [HQ.out, t1]; rfl), rfl⟩

theorem SV.rowRole {w : World} {S : Nat} {vR vO vI vU vN : Value} {LR : List (RRole × Value)} {LO : List (PObj × Value × Value × Value)} {LI : List (PIf × Value)} {LU : List (PUn × Value)} {names : List ByteArray} (h : SV w S vR vO vI vU vN LR LO LI LU names) : Rowed w vR 2 (LR.map rN) := h.r.rowed rN (fun _ => rfl) (fun _ => rfl)
set_option maxHeartbeats 1000000 in
theorem sRole_any (w : World) (S : Nat) (vR vO vI vU vN : Value) (LR : List (RRole × Value)) (LO : List (PObj × Value × Value × Value)) (LI : List (PIf × Value)) (LU : List (PUn × Value)) (names : List ByteArray) (x : ByteArray) (h : SV w S vR vO vI vU vN LR LO LI LU names) :
    Calls Tryz.prog 142 #[.pointer (some ⟨S, 0, none⟩), .string x] w fun e w' => e = .returned (ptrAt vR 2 (idxI (LR.map rN) x)) ∧ Below w.heap.size w w' := by
  have hc := findRole_any w vR x (LR.map rN) h.rowRole (by have := h.lr; simp; omega)
  have c0 : w.cell? ⟨S, 0, none⟩ = some vR := cell_of_block h.sc 0
  obtain ⟨a, cap, hv⟩ := own_slice h.r.own
  clear h
  subst hv
  generalize idxI (LR.map rN) x = q at *
  go_enter Tryz.func142, Tryz.ntmps142
  go_wp2_with fail
  refine hc.mono ?_
  clear hc
  rintro e w1 ⟨rfl, hb1⟩
  go_wp2_with fail
  go_ret
  exact ⟨rfl, hb1⟩

theorem SV.rowObject {w : World} {S : Nat} {vR vO vI vU vN : Value} {LR : List (RRole × Value)} {LO : List (PObj × Value × Value × Value)} {LI : List (PIf × Value)} {LU : List (PUn × Value)} {names : List ByteArray} (h : SV w S vR vO vI vU vN LR LO LI LU names) : Rowed w vO 4 (LO.map oN) := h.o.rowed oN (fun _ => rfl) (fun _ => rfl)
set_option maxHeartbeats 1000000 in
theorem sObject_any (w : World) (S : Nat) (vR vO vI vU vN : Value) (LR : List (RRole × Value)) (LO : List (PObj × Value × Value × Value)) (LI : List (PIf × Value)) (LU : List (PUn × Value)) (names : List ByteArray) (x : ByteArray) (h : SV w S vR vO vI vU vN LR LO LI LU names) :
    Calls Tryz.prog 105 #[.pointer (some ⟨S, 0, none⟩), .string x] w fun e w' => e = .returned (ptrAt vO 4 (idxI (LO.map oN) x)) ∧ Below w.heap.size w w' := by
  have hc := findObject_any w vO x (LO.map oN) h.rowObject (by have := h.lo; simp; omega)
  have c0 : w.cell? ⟨S, 1, none⟩ = some vO := cell_of_block h.sc 1
  obtain ⟨a, cap, hv⟩ := own_slice h.o.own
  clear h
  subst hv
  generalize idxI (LO.map oN) x = q at *
  go_enter Tryz.func105, Tryz.ntmps105
  go_wp2_with fail
  refine hc.mono ?_
  clear hc
  rintro e w1 ⟨rfl, hb1⟩
  go_wp2_with fail
  go_ret
  exact ⟨rfl, hb1⟩

theorem SV.rowIface {w : World} {S : Nat} {vR vO vI vU vN : Value} {LR : List (RRole × Value)} {LO : List (PObj × Value × Value × Value)} {LI : List (PIf × Value)} {LU : List (PUn × Value)} {names : List ByteArray} (h : SV w S vR vO vI vU vN LR LO LI LU names) : Rowed w vI 2 (LI.map iN) := h.i.rowed iN (fun _ => rfl) (fun _ => rfl)
set_option maxHeartbeats 1000000 in
theorem sIface_any (w : World) (S : Nat) (vR vO vI vU vN : Value) (LR : List (RRole × Value)) (LO : List (PObj × Value × Value × Value)) (LI : List (PIf × Value)) (LU : List (PUn × Value)) (names : List ByteArray) (x : ByteArray) (h : SV w S vR vO vI vU vN LR LO LI LU names) :
    Calls Tryz.prog 139 #[.pointer (some ⟨S, 0, none⟩), .string x] w fun e w' => e = .returned (ptrAt vI 2 (idxI (LI.map iN) x)) ∧ Below w.heap.size w w' := by
  have hc := findIface_any w vI x (LI.map iN) h.rowIface (by have := h.li; simp; omega)
  have c0 : w.cell? ⟨S, 2, none⟩ = some vI := cell_of_block h.sc 2
  obtain ⟨a, cap, hv⟩ := own_slice h.i.own
  clear h
  subst hv
  generalize idxI (LI.map iN) x = q at *
  go_enter Tryz.func139, Tryz.ntmps139
  go_wp2_with fail
  refine hc.mono ?_
  clear hc
  rintro e w1 ⟨rfl, hb1⟩
  go_wp2_with fail
  go_ret
  exact ⟨rfl, hb1⟩

theorem SV.rowUnion {w : World} {S : Nat} {vR vO vI vU vN : Value} {LR : List (RRole × Value)} {LO : List (PObj × Value × Value × Value)} {LI : List (PIf × Value)} {LU : List (PUn × Value)} {names : List ByteArray} (h : SV w S vR vO vI vU vN LR LO LI LU names) : Rowed w vU 2 (LU.map uN) := h.u.rowed uN (fun _ => rfl) (fun _ => rfl)
set_option maxHeartbeats 1000000 in
theorem sUnion_any (w : World) (S : Nat) (vR vO vI vU vN : Value) (LR : List (RRole × Value)) (LO : List (PObj × Value × Value × Value)) (LI : List (PIf × Value)) (LU : List (PUn × Value)) (names : List ByteArray) (x : ByteArray) (h : SV w S vR vO vI vU vN LR LO LI LU names) :
    Calls Tryz.prog 178 #[.pointer (some ⟨S, 0, none⟩), .string x] w fun e w' => e = .returned (ptrAt vU 2 (idxI (LU.map uN) x)) ∧ Below w.heap.size w w' := by
  have hc := findUnion_any w vU x (LU.map uN) h.rowUnion (by have := h.lu; simp; omega)
  have c0 : w.cell? ⟨S, 3, none⟩ = some vU := cell_of_block h.sc 3
  obtain ⟨a, cap, hv⟩ := own_slice h.u.own
  clear h
  subst hv
  generalize idxI (LU.map uN) x = q at *
  go_enter Tryz.func178, Tryz.ntmps178
  go_wp2_with fail
  refine hc.mono ?_
  clear hc
  rintro e w1 ⟨rfl, hb1⟩
  go_wp2_with fail
  go_ret
  exact ⟨rfl, hb1⟩

def has (l : List ByteArray) (x : ByteArray) : Bool := decide (¬ idxI l x < 0)
def kindN (objs ifs uns : List ByteArray) (x : ByteArray) : Nat :=
  if scalB x = true then 1 else if has objs x = true then 2 else if has ifs x = true then 3 else if has uns x = true then 4 else 0
set_option maxHeartbeats 2000000 in
theorem kindP_any (w : World) (S : Nat) (vR vO vI vU vN : Value) (LR : List (RRole × Value)) (LO : List (PObj × Value × Value × Value)) (LI : List (PIf × Value)) (LU : List (PUn × Value)) (names : List ByteArray) (x : ByteArray) (h : SV w S vR vO vI vU vN LR LO LI LU names) :
    Calls Tryz.prog 144 #[.pointer (some ⟨S, 0, none⟩), .string x] w fun e w' => e = .returned (.int .i64 (kindN (LO.map oN) (LI.map iN) (LU.map uN) x)) ∧ Below w.heap.size w w' := by
  have hsc := isScalar_any x
  cases hx : scalB x
  · rw [hx] at hsc
    have h1 := sObject_any w S vR vO vI vU vN LR LO LI LU names x h
    have HI := hide (fun w' hb => sIface_any w' S vR vO vI vU vN LR LO LI LU names x (h.below hb))
    have HU := hide (fun w' hb => sUnion_any w' S vR vO vI vU vN LR LO LI LU names x (h.below hb))
    have n1 := ptrAt_nil h.rowObject x
    have n2 := ptrAt_nil h.rowIface x
    have n3 := ptrAt_nil h.rowUnion x
    have HQ := hide (show kindN (LO.map oN) (LI.map iN) (LU.map uN) x = if has (LO.map oN) x = true then 2 else if has (LI.map iN) x = true then 3 else if has (LU.map uN) x = true then 4 else 0 from by unfold kindN; rw [hx]; simp)
    unfold has at HQ
    generalize kindN (LO.map oN) (LI.map iN) (LU.map uN) x = kk at *
    generalize ptrAt vO 4 (idxI (LO.map oN) x) = p1 at *
    generalize ptrAt vI 2 (idxI (LI.map iN) x) = p2 at *
    generalize ptrAt vU 2 (idxI (LU.map uN) x) = p3 at *
    generalize idxI (LO.map oN) x = q1 at *
    generalize idxI (LI.map iN) x = q2 at *
    generalize idxI (LU.map uN) x = q3 at *
    clear h hx
    by_cases e1 : q1 < 0
    · have t1 := n1.1 e1
      subst t1
      by_cases e2 : q2 < 0
      · have t2 := n2.1 e2
        subst t2
        by_cases e3 : q3 < 0
        · have t3 := n3.1 e3
          subst t3
          have HE := hide (show kk = 0 from by rw [HQ.out]; simp [e1, e2, e3])
          clear n1 n2 n3 e1 e2 e3 HQ
          go_enter Tryz.func144, Tryz.ntmps144
          go_wp2_with fail
          refine (hsc w).mono ?_
          rintro e w1 ⟨rfl, hw1⟩
          have hw1 := hw1.symm
          subst hw1
          go_wp2_with fail
          refine h1.mono ?_
          clear h1
          rintro e w1 ⟨rfl, hb1⟩
          go_wp2_with fail
          refine (HI.out w1 hb1).mono ?_
          rintro e w2 ⟨rfl, hb2⟩
          have hb12 := hb1.trans (hb2.mono hb1.size)
          go_wp2_with fail
          refine (HU.out w2 hb12).mono ?_
          rintro e w3 ⟨rfl, hb3⟩
          go_wp2_with fail
          go_ret
          exact ⟨ret_int (by rw [HE.out]; rfl), hb12.trans (hb3.mono hb12.size)⟩
        · obtain ⟨a3, t3⟩ := n3.2 e3
          subst t3
          have HE := hide (show kk = 4 from by rw [HQ.out]; simp [e1, e2, e3])
          clear n1 n2 n3 e1 e2 e3 HQ
          go_enter Tryz.func144, Tryz.ntmps144
          go_wp2_with fail
          refine (hsc w).mono ?_
          rintro e w1 ⟨rfl, hw1⟩
          have hw1 := hw1.symm
          subst hw1
          go_wp2_with fail
          refine h1.mono ?_
          clear h1
          rintro e w1 ⟨rfl, hb1⟩
          go_wp2_with fail
          refine (HI.out w1 hb1).mono ?_
          rintro e w2 ⟨rfl, hb2⟩
          have hb12 := hb1.trans (hb2.mono hb1.size)
          go_wp2_with fail
          refine (HU.out w2 hb12).mono ?_
          rintro e w3 ⟨rfl, hb3⟩
          go_wp2_with fail
          go_ret
          exact ⟨ret_int (by rw [HE.out]; rfl), hb12.trans (hb3.mono hb12.size)⟩
      · obtain ⟨a2, t2⟩ := n2.2 e2
        subst t2
        have HE := hide (show kk = 3 from by rw [HQ.out]; simp [e1, e2])
        clear n1 n2 n3 e1 e2 HQ HU
        go_enter Tryz.func144, Tryz.ntmps144
        go_wp2_with fail
        refine (hsc w).mono ?_
        rintro e w1 ⟨rfl, hw1⟩
        have hw1 := hw1.symm
        subst hw1
        go_wp2_with fail
        refine h1.mono ?_
        clear h1
        rintro e w1 ⟨rfl, hb1⟩
        go_wp2_with fail
        refine (HI.out w1 hb1).mono ?_
        rintro e w2 ⟨rfl, hb2⟩
        go_wp2_with fail
        go_ret
        exact ⟨ret_int (by rw [HE.out]; rfl), hb1.trans (hb2.mono hb1.size)⟩
    · obtain ⟨a1, t1⟩ := n1.2 e1
      subst t1
      have HE := hide (show kk = 2 from by rw [HQ.out]; simp [e1])
      clear n1 n2 n3 e1 HQ HU HI
      go_enter Tryz.func144, Tryz.ntmps144
      go_wp2_with fail
      refine (hsc w).mono ?_
      rintro e w1 ⟨rfl, hw1⟩
      have hw1 := hw1.symm
      subst hw1
      go_wp2_with fail
      refine h1.mono ?_
      clear h1
      rintro e w1 ⟨rfl, hb1⟩
      go_wp2_with fail
      go_ret
      exact ⟨ret_int (by rw [HE.out]; rfl), hb1⟩
  · rw [hx] at hsc
    have HE := hide (show kindN (LO.map oN) (LI.map iN) (LU.map uN) x = 1 from by unfold kindN; rw [if_pos hx])
    generalize kindN (LO.map oN) (LI.map iN) (LU.map uN) x = kk at *
    clear h hx
    go_enter Tryz.func144, Tryz.ntmps144
    go_wp2_with fail
    refine (hsc w).mono ?_
    rintro e w1 ⟨rfl, hw1⟩
    have hw1 := hw1.symm
    subst hw1
    go_wp2_with fail
    go_ret
    exact ⟨ret_int (by rw [HE.out]; rfl), Below.refl _ _⟩
def markB (roles : List ByteArray) (x : ByteArray) : Bool := decide (x = bE) || has roles x
set_option maxHeartbeats 1000000 in
theorem markRight_any (w : World) (S : Nat) (vR vO vI vU vN : Value) (LR : List (RRole × Value)) (LO : List (PObj × Value × Value × Value)) (LI : List (PIf × Value)) (LU : List (PUn × Value)) (names : List ByteArray) (x : ByteArray) (h : SV w S vR vO vI vU vN LR LO LI LU names) :
    Calls Tryz.prog 171 #[.pointer (some ⟨S, 0, none⟩), .string x] w fun e w' => e = .returned (.bool (markB (LR.map rN) x)) ∧ Below w.heap.size w w' := by
  have hc := sRole_any w S vR vO vI vU vN LR LO LI LU names x h
  have hn := ptrAt_nil h.rowRole x
  have HQ := hide (show markB (LR.map rN) x = (x.toList.isEmpty || decide (¬ idxI (LR.map rN) x < 0)) from by unfold markB has; rw [empty_iff])
  generalize markB (LR.map rN) x = mm at *
  generalize ptrAt vR 2 (idxI (LR.map rN) x) = pp at *
  generalize idxI (LR.map rN) x = q at *
  clear h
  cases he : x.toList.isEmpty
  · by_cases hq : q < 0
    · have t1 := hn.1 hq
      subst t1
      have HE := hide (show mm = false from by rw [HQ.out, he]; simp [hq])
      clear hn hq HQ
      go_enter Tryz.func171, Tryz.ntmps171
      go_wp2_with fail
      refine hc.mono ?_
      clear hc
      rintro e w1 ⟨rfl, hb1⟩
      go_wp2_with fail
      go_ret
      exact ⟨ret_bool (by rw [HE.out]), hb1⟩
    · obtain ⟨a1, t1⟩ := hn.2 hq
      subst t1
      have HE := hide (show mm = true from by rw [HQ.out, he]; simp [hq])
      clear hn hq HQ
      go_enter Tryz.func171, Tryz.ntmps171
      go_wp2_with fail
      refine hc.mono ?_
      clear hc
      rintro e w1 ⟨rfl, hb1⟩
      go_wp2_with fail
      go_ret
      exact ⟨ret_bool (by rw [HE.out]), hb1⟩
  · have HE := hide (show mm = true from by rw [HQ.out, he]; rfl)
    clear hn HQ
    go_enter Tryz.func171, Tryz.ntmps171
    go_wp2_with fail
    go_ret
    exact ⟨ret_bool (by rw [HE.out]), Below.refl _ _⟩
end Go.Proofs.YtpggfgjongkihaaGreat
namespace Go.Proofs.YtpggfgjongkihaaGreat
open Go.RowKit
def coreT : PTy → ByteArray
  | .one n _ => n
  | .list t _ => coreT t
def depthT : PTy → Nat
  | .one _ _ => 0
  | .list t _ => depthT t + 1
def sameT : PTy → PTy → Bool
  | .one n s, .one m r => (s == r) && decide (n = m)
  | .list a s, .list b r => (s == r) && sameT a b
  | _, _ => false
def isList : PTy → Bool
  | .one _ _ => false
  | .list _ _ => true
set_option maxHeartbeats 1000000 in
theorem innermost_any (w : World) (B : Nat) (v : Value) (t : PTy) (h : TyAt w B v t) :
    Calls Tryz.prog 170 #[v] w fun e w' => (∃ k st, e = .returned (.pointer (some ⟨k, 0, none⟩)) ∧ w.heap[k]? = some (.cells #[.string (coreT t), .int .i64 0, .pointer none, .bool st] 257 (0, 0))) ∧ w' = w := by
  have HQ := hide (show coreT t = coreT t from rfl)
  obtain ⟨k0, rfl⟩ := h.ptr
  have H0 := hide h
  clear h
  go_enter Tryz.func170, Tryz.ntmps170
  go_wp2_with fail
  go_loopg [0] (depthT t) (fun m v0 wr => ∃ t', TyAt w B v0 t' ∧ coreT t' = coreT t ∧ depthT t' ≤ m ∧ wr = w)
  case atStart => exact ⟨t, H0.out, rfl, Nat.le_refl _, rfl⟩
  case round =>
    obtain ⟨t', ht, hct, hd, rfl⟩ := hrel
    have HCT := hide hct
    clear hct H0 HQ
    cases t' with
    | one n st =>
      obtain ⟨k, hk, _, hb⟩ := ht
      subst hk
      have c1 : wr.cell? ⟨k, 1, none⟩ = some (.int .i64 0) := cell_of_block hb 1
      have HB := hide hb
      clear hb
      go_wp2_with fail
      go_ret
      exact ⟨⟨k, st, rfl, by rw [← HCT.out]; exact HB.out⟩, rfl⟩
    | list t1 st =>
      obtain ⟨k, u, hk, _, hb, ht1⟩ := ht
      subst hk
      obtain ⟨k1, hk1⟩ := ht1.ptr
      subst hk1
      have c1 : wr.cell? ⟨k, 1, none⟩ = some (.int .i64 1) := cell_of_block hb 1
      have c2 : wr.cell? ⟨k, 2, none⟩ = some (.pointer (some ⟨k1, 0, none⟩)) := cell_of_block hb 2
      have HT := hide ht1
      have hd' : depthT t1 + 1 ≤ gk := hd
      clear hb ht1
      go_wp2_with fail
      go_roundg (depthT t1)
      case measure => omega
      case rel => exact ⟨t1, HT.out, HCT.out, Nat.le_refl _, rfl⟩
set_option maxHeartbeats 2000000 in
set_option maxRecDepth 100000 in
theorem sameT_any : ∀ (t u : PTy) (w : World) (B C : Nat) (v v' : Value), TyAt w B v t → TyAt w C v' u →
    Calls Tryz.prog 176 #[v, v'] w fun e w' => e = .returned (.bool (sameT t u)) ∧ Below w.heap.size w w' := by
  intro t
  induction t with
  | one n s =>
    intro u w B C v v' ht hu
    obtain ⟨k, rfl, _, hb⟩ := ht
    have c0 : w.cell? ⟨k, 0, none⟩ = some (.string n) := cell_of_block hb 0
    have c1 : w.cell? ⟨k, 1, none⟩ = some (.int .i64 0) := cell_of_block hb 1
    have c3 : w.cell? ⟨k, 3, none⟩ = some (.bool s) := cell_of_block hb 3
    clear hb
    cases u with
    | one m r =>
      obtain ⟨k', rfl, _, hb'⟩ := hu
      have d0 : w.cell? ⟨k', 0, none⟩ = some (.string m) := cell_of_block hb' 0
      have d1 : w.cell? ⟨k', 1, none⟩ = some (.int .i64 0) := cell_of_block hb' 1
      have d3 : w.cell? ⟨k', 3, none⟩ = some (.bool r) := cell_of_block hb' 3
      clear hb'
      have HQ := hide (show sameT (.one n s) (.one m r) = ((s == r) && (n.toList == m.toList)) from by rw [sameT, beq_bytes])
      generalize sameT (.one n s) (.one m r) = FF at *
      cases s <;> cases r
      all_goals (
        go_enter Tryz.func176, Tryz.ntmps176
        go_wp2_with fail
        go_quiet (fail)
        go_wp2_with fail
        try (go_quiet (fail); go_wp2_with fail)
        go_ret
        exact ⟨ret_bool (by rw [HQ.out]; simp), by first | exact below_drewN (below_drewN (Below.refl _ _) _) _ | exact below_drewN (Below.refl _ _) _⟩)
    | list b r =>
      obtain ⟨k', u1, rfl, _, hb', _⟩ := hu
      have d1 : w.cell? ⟨k', 1, none⟩ = some (.int .i64 1) := cell_of_block hb' 1
      have d3 : w.cell? ⟨k', 3, none⟩ = some (.bool r) := cell_of_block hb' 3
      clear hb'
      rw [show sameT (.one n s) (.list b r) = false from rfl]
      go_enter Tryz.func176, Tryz.ntmps176
      go_wp2_with fail
      go_quiet (fail)
      go_wp2_with fail
      go_ret
      exact ⟨rfl, below_drewN (Below.refl _ _) _⟩
  | list a s ih =>
    intro u w B C v v' ht hu
    obtain ⟨k, ua, rfl, _, hb, hta⟩ := ht
    obtain ⟨ka, rfl⟩ := hta.ptr
    have c1 : w.cell? ⟨k, 1, none⟩ = some (.int .i64 1) := cell_of_block hb 1
    have c2 : w.cell? ⟨k, 2, none⟩ = some (.pointer (some ⟨ka, 0, none⟩)) := cell_of_block hb 2
    have c3 : w.cell? ⟨k, 3, none⟩ = some (.bool s) := cell_of_block hb 3
    clear hb
    cases u with
    | one m r =>
      obtain ⟨k', rfl, _, hb'⟩ := hu
      have d1 : w.cell? ⟨k', 1, none⟩ = some (.int .i64 0) := cell_of_block hb' 1
      have d3 : w.cell? ⟨k', 3, none⟩ = some (.bool r) := cell_of_block hb' 3
      clear hb'
      rw [show sameT (.list a s) (.one m r) = false from rfl]
      go_enter Tryz.func176, Tryz.ntmps176
      go_wp2_with fail
      go_quiet (fail)
      go_wp2_with fail
      go_ret
      exact ⟨rfl, below_drewN (Below.refl _ _) _⟩
    | list b r =>
      obtain ⟨k', ub, rfl, _, hb', htb⟩ := hu
      obtain ⟨kb, rfl⟩ := htb.ptr
      have d1 : w.cell? ⟨k', 1, none⟩ = some (.int .i64 1) := cell_of_block hb' 1
      have d2 : w.cell? ⟨k', 2, none⟩ = some (.pointer (some ⟨kb, 0, none⟩)) := cell_of_block hb' 2
      have d3 : w.cell? ⟨k', 3, none⟩ = some (.bool r) := cell_of_block hb' 3
      clear hb'
      have HC := hide (fun W (hW : Below w.heap.size w W) => ih b W B C _ _ (hta.stays (Stay.of_below hW)) (htb.stays (Stay.of_below hW)))
      have HQ := hide (show sameT (.list a s) (.list b r) = ((s == r) && sameT a b) from rfl)
      generalize sameT (.list a s) (.list b r) = FF at *
      generalize sameT a b = GG at *
      clear ih hta htb
      cases s <;> cases r
      · go_enter Tryz.func176, Tryz.ntmps176
        go_wp2_with fail
        go_quiet (fail)
        go_wp2_with fail
        go_region_with (go_at_call 176; refine (HC.out _ ?_).mono ?_; (first | exact below_drewN (Below.refl _ _) _ | exact (below_drewN (Below.refl _ _) _).drew | exact (Below.refl _ _).drew); rintro e w1 ⟨rfl, hb1⟩)
        all_goals (
          go_wp2_with fail
          go_ret
          exact ⟨ret_bool (by rw [HQ.out]; simp), by first | exact (below_drewN (Below.refl _ _) _).trans hb1 | exact ((below_drewN (Below.refl _ _) _).drew).trans hb1⟩)
      · go_enter Tryz.func176, Tryz.ntmps176
        go_wp2_with fail
        go_quiet (fail)
        go_wp2_with fail
        go_ret
        exact ⟨ret_bool (by rw [HQ.out]; simp), below_drewN (Below.refl _ _) _⟩
      · go_enter Tryz.func176, Tryz.ntmps176
        go_wp2_with fail
        go_quiet (fail)
        go_wp2_with fail
        go_ret
        exact ⟨ret_bool (by rw [HQ.out]; simp), below_drewN (Below.refl _ _) _⟩
      · go_enter Tryz.func176, Tryz.ntmps176
        go_wp2_with fail
        go_quiet (fail)
        go_wp2_with fail
        go_region_with (go_at_call 176; refine (HC.out _ ?_).mono ?_; (first | exact below_drewN (Below.refl _ _) _ | exact (below_drewN (Below.refl _ _) _).drew | exact (Below.refl _ _).drew); rintro e w1 ⟨rfl, hb1⟩)
        all_goals (
          go_wp2_with fail
          go_ret
          exact ⟨ret_bool (by rw [HQ.out]; simp), by first | exact (below_drewN (Below.refl _ _) _).trans hb1 | exact ((below_drewN (Below.refl _ _) _).drew).trans hb1⟩)
end Go.Proofs.YtpggfgjongkihaaGreat
namespace Go.Proofs.YtpggfgjongkihaaGreat
open Go.RowKit
def und2 (s : ByteArray) : Bool := decide (s.data.toList.take 2 = [95, 95])
set_option maxHeartbeats 400000 in
theorem under_any (s : ByteArray) (w : World) :
    Calls Tryz.prog 163 #[.string s, .string ⟨#[95, 95]⟩] w fun e w' => e = .returned (.bool (und2 s)) ∧ w' = w := by
  by_cases hd3 : 2 ≤ s.size
  · have h3 : 2 ≤ (s.size : Int) := by omega
    have HT := hide (show ((s.extract 0 2).toList == [95, 95]) = und2 s from by
      unfold und2
      rw [Lib.toList_data, Lib.extract_data, Bool.eq_iff_iff]; simp)
    cases hdd : ((s.extract 0 2).toList == [95, 95])
    · go_enter Tryz.func163, Tryz.ntmps163
      go_wp2
      go_ret
      exact ⟨ret_bool (by rw [← HT.out, hdd]), rfl⟩
    · go_enter Tryz.func163, Tryz.ntmps163
      go_wp2
      go_ret
      exact ⟨ret_bool (by rw [← HT.out, hdd]), rfl⟩
  · have h3 : ¬ 2 ≤ (s.size : Int) := by omega
    have HT := hide (show und2 s = false from by unfold und2; rw [decide_eq_false_iff_not]; intro e; have := congrArg List.length e; simp at this; have h9 : s.data.size = s.size := rfl; omega)
    go_enter Tryz.func163, Tryz.ntmps163
    go_wp2
    go_ret
    exact ⟨ret_bool (by rw [HT.out]), rfl⟩
/-- a field at an address -/
structure FldAt (w : World) (g o : Nat) (f : PFld) (u : Value) : Prop where
  c0 : w.cell? ⟨g, o, none⟩ = some (.string f.name)
  c1 : w.cell? ⟨g, o + 1, none⟩ = some (.string f.auth)
  c2 : w.cell? ⟨g, o + 2, none⟩ = some (.string f.hide_)
  c3 : w.cell? ⟨g, o + 3, none⟩ = some (.string f.arg)
  c4 : w.cell? ⟨g, o + 4, none⟩ = some (.string f.scalar)
  c5 : w.cell? ⟨g, o + 5, none⟩ = some u
theorem FldAt.below {w w' : World} {g o : Nat} {f : PFld} {u : Value} (h : FldAt w g o f u) (hb : Below w.heap.size w w') : FldAt w' g o f u :=
  ⟨cell_below hb h.c0, cell_below hb h.c1, cell_below hb h.c2, cell_below hb h.c3, cell_below hb h.c4, cell_below hb h.c5⟩
def argB (kind : ByteArray → Nat) (arg : ByteArray) (t : PTy) : Bool :=
  if arg = bId then !isList t && decide (kind (coreT t) ≠ 1)
  else if arg = bFirst then isList t
  else true

set_option maxHeartbeats 2000000 in
set_option maxRecDepth 100000 in
theorem argumentRight_any (w : World) (S : Nat) (vR vO vI vU vN : Value) (LR : List (RRole × Value)) (LO : List (PObj × Value × Value × Value)) (LI : List (PIf × Value)) (LU : List (PUn × Value)) (names : List ByteArray) (g o B : Nat) (f : PFld) (u : Value) (h : SV w S vR vO vI vU vN LR LO LI LU names) (hf : FldAt w g o f u) (ht : TyAt w B u f.ty) :
    Calls Tryz.prog 172 #[.pointer (some ⟨S, 0, none⟩), .pointer (some ⟨g, o, none⟩)] w fun e w' => e = .returned (.bool (argB (kindN (LO.map oN) (LI.map iN) (LU.map uN)) f.arg f.ty)) ∧ Below w.heap.size w w' := by
  have c3 := hf.c3
  have c5 := hf.c5
  clear hf
  have L1 := beq_lit f.arg [105, 100]
  have L2 := beq_lit f.arg [102, 105, 114, 115, 116]
  obtain ⟨fn, fa, fh, fx, fs, ty⟩ := f
  simp only [] at *
  by_cases e1 : fx = bId
  · rw [decide_eq_true (show fx = ofB _ from e1)] at L1
    cases ty with
    | one n st =>
      obtain ⟨k, rfl, _, hb⟩ := ht
      have d0 : w.cell? ⟨k, 0, none⟩ = some (.string n) := cell_of_block hb 0
      have d1 : w.cell? ⟨k, 1, none⟩ = some (.int .i64 0) := cell_of_block hb 1
      have hk := kindP_any w S vR vO vI vU vN LR LO LI LU names n h
      have HQ := hide (show argB (kindN (LO.map oN) (LI.map iN) (LU.map uN)) fx (.one n st) = decide (kindN (LO.map oN) (LI.map iN) (LU.map uN) n ≠ 1) from by unfold argB; rw [if_pos e1]; rfl)
      generalize argB (kindN (LO.map oN) (LI.map iN) (LU.map uN)) fx (.one n st) = FF at *
      generalize kindN (LO.map oN) (LI.map iN) (LU.map uN) n = kk at *
      clear hb h e1 L2
      by_cases hk1 : kk = 1
      · have t1 : ((kk : Int) == 1) = true := by simp; omega
        go_enter Tryz.func172, Tryz.ntmps172
        go_wp2_with fail
        refine hk.mono ?_
        clear hk
        rintro e w1 ⟨rfl, hb1⟩
        go_wp2_with fail
        go_ret
        exact ⟨ret_bool (by rw [HQ.out]; simp [hk1]), hb1⟩
      · have t1 : ((kk : Int) == 1) = false := by simp; omega
        go_enter Tryz.func172, Tryz.ntmps172
        go_wp2_with fail
        refine hk.mono ?_
        clear hk
        rintro e w1 ⟨rfl, hb1⟩
        go_wp2_with fail
        go_ret
        exact ⟨ret_bool (by rw [HQ.out]; have : ¬ (kk : Int) = 1 := by omega
                            simp [hk1, this]), hb1⟩
    | list t st =>
      obtain ⟨k, u1, rfl, _, hb, _⟩ := ht
      have d1 : w.cell? ⟨k, 1, none⟩ = some (.int .i64 1) := cell_of_block hb 1
      have HQ := hide (show argB (kindN (LO.map oN) (LI.map iN) (LU.map uN)) fx (.list t st) = false from by unfold argB; rw [if_pos e1]; rfl)
      generalize argB (kindN (LO.map oN) (LI.map iN) (LU.map uN)) fx (.list t st) = FF at *
      clear hb h e1 L2
      go_enter Tryz.func172, Tryz.ntmps172
      go_wp2_with fail
      go_ret
      exact ⟨ret_bool (by rw [HQ.out]), Below.refl _ _⟩
  · rw [decide_eq_false (show ¬ fx = ofB _ from e1)] at L1
    by_cases e2 : fx = bFirst
    · rw [decide_eq_true (show fx = ofB _ from e2)] at L2
      have HQ := hide (show argB (kindN (LO.map oN) (LI.map iN) (LU.map uN)) fx ty = isList ty from by unfold argB; rw [if_neg e1, if_pos e2])
      generalize argB (kindN (LO.map oN) (LI.map iN) (LU.map uN)) fx ty = FF at *
      cases ty with
      | one n st =>
        obtain ⟨k, rfl, _, hb⟩ := ht
        have d1 : w.cell? ⟨k, 1, none⟩ = some (.int .i64 0) := cell_of_block hb 1
        clear hb h e1 e2
        go_enter Tryz.func172, Tryz.ntmps172
        go_wp2_with fail
        go_ret
        exact ⟨ret_bool (by rw [HQ.out]; rfl), Below.refl _ _⟩
      | list t st =>
        obtain ⟨k, u1, rfl, _, hb, _⟩ := ht
        have d1 : w.cell? ⟨k, 1, none⟩ = some (.int .i64 1) := cell_of_block hb 1
        clear hb h e1 e2
        go_enter Tryz.func172, Tryz.ntmps172
        go_wp2_with fail
        go_ret
        exact ⟨ret_bool (by rw [HQ.out]; rfl), Below.refl _ _⟩
    · rw [decide_eq_false (show ¬ fx = ofB _ from e2)] at L2
      have HQ := hide (show argB (kindN (LO.map oN) (LI.map iN) (LU.map uN)) fx ty = true from by unfold argB; rw [if_neg e1, if_neg e2])
      generalize argB (kindN (LO.map oN) (LI.map iN) (LU.map uN)) fx ty = FF at *
      clear h e1 e2 ht
      go_enter Tryz.func172, Tryz.ntmps172
      go_wp2_with fail
      go_ret
      exact ⟨ret_bool (by rw [HQ.out]), Below.refl _ _⟩
def fldB (roles : List ByteArray) (kind : ByteArray → Nat) (f : PFld) : Bool :=
  !und2 f.name && (decide (kind (coreT f.ty) ≠ 0) && (markB roles f.auth && (markB roles f.hide_ && argB kind f.arg f.ty)))
set_option maxHeartbeats 2000000 in
set_option maxRecDepth 100000 in
theorem fieldRight_any (w : World) (S : Nat) (vR vO vI vU vN : Value) (LR : List (RRole × Value)) (LO : List (PObj × Value × Value × Value)) (LI : List (PIf × Value)) (LU : List (PUn × Value)) (names : List ByteArray) (g o B : Nat) (f : PFld) (u : Value) (h : SV w S vR vO vI vU vN LR LO LI LU names) (hf : FldAt w g o f u) (ht : TyAt w B u f.ty) :
    Calls Tryz.prog 137 #[.pointer (some ⟨S, 0, none⟩), .pointer (some ⟨g, o, none⟩)] w fun e w' => e = .returned (.bool (fldB (LR.map rN) (kindN (LO.map oN) (LI.map iN) (LU.map uN)) f)) ∧ Below w.heap.size w w' := by
  have HF := hide hf
  have c0 := hf.c0
  have c1 := hf.c1
  have c2 := hf.c2
  have c5 := hf.c5
  have hp := under_any f.name
  have hin := innermost_any w B u f.ty ht
  have hk := kindP_any w S vR vO vI vU vN LR LO LI LU names (coreT f.ty) h
  have HM1 := hide (fun w' hb => markRight_any w' S vR vO vI vU vN LR LO LI LU names f.auth (h.below hb))
  have HM2 := hide (fun w' hb => markRight_any w' S vR vO vI vU vN LR LO LI LU names f.hide_ (h.below hb))
  have HA := hide (fun w' hb => argumentRight_any w' S vR vO vI vU vN LR LO LI LU names g o B f u (h.below hb) (HF.out.below hb) (ht.stays (Stay.of_below hb)))
  obtain ⟨ku, rfl⟩ := ht.ptr
  have HQ := hide (show fldB (LR.map rN) (kindN (LO.map oN) (LI.map iN) (LU.map uN)) f = (!und2 f.name && (decide (kindN (LO.map oN) (LI.map iN) (LU.map uN) (coreT f.ty) ≠ 0) && (markB (LR.map rN) f.auth && (markB (LR.map rN) f.hide_ && argB (kindN (LO.map oN) (LI.map iN) (LU.map uN)) f.arg f.ty)))) from rfl)
  generalize fldB (LR.map rN) (kindN (LO.map oN) (LI.map iN) (LU.map uN)) f = FF at *
  generalize argB (kindN (LO.map oN) (LI.map iN) (LU.map uN)) f.arg f.ty = q5 at *
  generalize kindN (LO.map oN) (LI.map iN) (LU.map uN) (coreT f.ty) = kk at *
  generalize markB (LR.map rN) f.auth = q3 at *
  generalize markB (LR.map rN) f.hide_ = q4 at *
  generalize und2 f.name = q1 at *
  generalize coreT f.ty = cT at *
  clear h hf ht
  cases q1
  · by_cases hk0 : kk = 0
    · have t1 : ((kk : Int) == 0) = true := by simp; omega
      have HQ2 := hide (show FF = false from by rw [HQ.out]; simp [hk0])
      clear HQ
      have HQ := HQ2
      clear HQ2
      go_enter Tryz.func137, Tryz.ntmps137
      go_wp2_with fail
      refine (hp w).mono ?_
      rintro e w0 ⟨rfl, hw0⟩
      have hw0 := hw0.symm
      subst hw0
      go_wp2_with fail
      refine hin.mono ?_
      clear hin
      rintro e w0 ⟨⟨kI, st, rfl, hbI⟩, hw0⟩
      have hw0 := hw0.symm
      subst hw0
      have dI : w.cell? ⟨kI, 0, none⟩ = some (.string cT) := cell_of_block hbI 0
      clear hbI
      go_wp2_with fail
      refine hk.mono ?_
      clear hk
      rintro e w1 ⟨rfl, hb1⟩
      have f1 := HF.out.below hb1
      have c11 := f1.c1
      have c12 := f1.c2
      clear f1
      go_wp2_with fail
      go_ret
      exact ⟨ret_bool (by first | (rw [HQ.out]; done) | (rw [HQ.out]; rfl)), hb1⟩
    · have t1 : ((kk : Int) == 0) = false := by simp; omega
      have HQ2 := hide (show FF = (q3 && (q4 && q5)) from by rw [HQ.out]; simp [hk0])
      clear HQ
      have HQ := HQ2
      clear HQ2
      cases q3
      · skip
        go_enter Tryz.func137, Tryz.ntmps137
        go_wp2_with fail
        refine (hp w).mono ?_
        rintro e w0 ⟨rfl, hw0⟩
        have hw0 := hw0.symm
        subst hw0
        go_wp2_with fail
        refine hin.mono ?_
        clear hin
        rintro e w0 ⟨⟨kI, st, rfl, hbI⟩, hw0⟩
        have hw0 := hw0.symm
        subst hw0
        have dI : w.cell? ⟨kI, 0, none⟩ = some (.string cT) := cell_of_block hbI 0
        clear hbI
        go_wp2_with fail
        refine hk.mono ?_
        clear hk
        rintro e w1 ⟨rfl, hb1⟩
        have f1 := HF.out.below hb1
        have c11 := f1.c1
        have c12 := f1.c2
        clear f1
        go_wp2_with fail
        refine (HM1.out w1 hb1).mono ?_
        rintro e w2 ⟨rfl, hb2⟩
        have hb12 := hb1.trans (hb2.mono hb1.size)
        have f2 := HF.out.below hb12
        have c22 := f2.c2
        clear f2
        go_wp2_with fail
        go_ret
        exact ⟨ret_bool (by first | (rw [HQ.out]; done) | (rw [HQ.out]; rfl)), hb12⟩
      · cases q4
        · skip
          go_enter Tryz.func137, Tryz.ntmps137
          go_wp2_with fail
          refine (hp w).mono ?_
          rintro e w0 ⟨rfl, hw0⟩
          have hw0 := hw0.symm
          subst hw0
          go_wp2_with fail
          refine hin.mono ?_
          clear hin
          rintro e w0 ⟨⟨kI, st, rfl, hbI⟩, hw0⟩
          have hw0 := hw0.symm
          subst hw0
          have dI : w.cell? ⟨kI, 0, none⟩ = some (.string cT) := cell_of_block hbI 0
          clear hbI
          go_wp2_with fail
          refine hk.mono ?_
          clear hk
          rintro e w1 ⟨rfl, hb1⟩
          have f1 := HF.out.below hb1
          have c11 := f1.c1
          have c12 := f1.c2
          clear f1
          go_wp2_with fail
          refine (HM1.out w1 hb1).mono ?_
          rintro e w2 ⟨rfl, hb2⟩
          have hb12 := hb1.trans (hb2.mono hb1.size)
          have f2 := HF.out.below hb12
          have c22 := f2.c2
          clear f2
          go_wp2_with fail
          refine (HM2.out w2 hb12).mono ?_
          rintro e w3 ⟨rfl, hb3⟩
          have hb13 := hb12.trans (hb3.mono hb12.size)
          go_wp2_with fail
          go_ret
          exact ⟨ret_bool (by first | (rw [HQ.out]; done) | (rw [HQ.out]; rfl)), hb13⟩
        · skip
          go_enter Tryz.func137, Tryz.ntmps137
          go_wp2_with fail
          refine (hp w).mono ?_
          rintro e w0 ⟨rfl, hw0⟩
          have hw0 := hw0.symm
          subst hw0
          go_wp2_with fail
          refine hin.mono ?_
          clear hin
          rintro e w0 ⟨⟨kI, st, rfl, hbI⟩, hw0⟩
          have hw0 := hw0.symm
          subst hw0
          have dI : w.cell? ⟨kI, 0, none⟩ = some (.string cT) := cell_of_block hbI 0
          clear hbI
          go_wp2_with fail
          refine hk.mono ?_
          clear hk
          rintro e w1 ⟨rfl, hb1⟩
          have f1 := HF.out.below hb1
          have c11 := f1.c1
          have c12 := f1.c2
          clear f1
          go_wp2_with fail
          refine (HM1.out w1 hb1).mono ?_
          rintro e w2 ⟨rfl, hb2⟩
          have hb12 := hb1.trans (hb2.mono hb1.size)
          have f2 := HF.out.below hb12
          have c22 := f2.c2
          clear f2
          go_wp2_with fail
          refine (HM2.out w2 hb12).mono ?_
          rintro e w3 ⟨rfl, hb3⟩
          have hb13 := hb12.trans (hb3.mono hb12.size)
          go_wp2_with fail
          refine (HA.out w3 hb13).mono ?_
          rintro e w4 ⟨rfl, hb4⟩
          have hb14 := hb13.trans (hb4.mono hb13.size)
          go_wp2_with fail
          go_ret
          exact ⟨ret_bool (by rw [HQ.out]; simp [hk0]), hb14⟩
  · skip
    go_enter Tryz.func137, Tryz.ntmps137
    go_wp2_with fail
    refine (hp w).mono ?_
    rintro e w0 ⟨rfl, hw0⟩
    have hw0 := hw0.symm
    subst hw0
    go_wp2_with fail
    go_ret
    exact ⟨ret_bool (by first | (rw [HQ.out]; done) | (rw [HQ.out]; rfl)), Below.refl _ _⟩
end Go.Proofs.YtpggfgjongkihaaGreat
namespace Go.Proofs.YtpggfgjongkihaaGreat
open Go.RowKit
def flF (x : PFld × Value) : List Value := (pfV x.1 x.2).toList
def okF (B : Nat) (w : World) (x : PFld × Value) : Prop := TyAt w B x.2 x.1.ty
def fN (x : PFld × Value) : ByteArray := x.1.name
theorem PFlds.row {w : World} {B : Nat} {v : Value} {l : List PFld} (h : PFlds w B v l) : ∃ L : List (PFld × Value), L.map Prod.fst = l ∧ RowG w B 180 6 v flF (okF B) L := by
  obtain ⟨L, e, ho, ht⟩ := h
  exact ⟨L, e, ho, ht⟩
theorem rowF_names (L : List (PFld × Value)) (l : List PFld) (h : L.map Prod.fst = l) : L.map fN = l.map PFld.name := by
  rw [← h, List.map_map]; rfl
theorem RowG.fldAt {w : World} {B : Nat} {v : Value} {L : List (PFld × Value)} (h : RowG w B 180 6 v flF (okF B) L) (j : Nat) (x : PFld × Value) (hx : L[j]? = some x) : ∃ g cap, v = .slice (some ⟨g, 0, none⟩) L.length cap ∧ FldAt w g (j * 6) x.1 x.2 ∧ TyAt w B x.2 x.1.ty := by
  obtain ⟨g, cap, hv, hc⟩ := h.cell (fun _ => rfl) j x hx
  exact ⟨g, cap, hv, ⟨by simpa using hc 0 _ rfl, hc 1 _ rfl, hc 2 _ rfl, hc 3 _ rfl, hc 4 _ rfl, hc 5 _ rfl⟩, h.ok x (List.mem_of_getElem? hx)⟩
set_option maxHeartbeats 1000000 in
theorem fieldOf_any (w : World) (gO oO : Nat) (vF : Value) (x : ByteArray) (l : List ByteArray) (hc : w.cell? ⟨gO, oO + 1, none⟩ = some vF) (h : Rowed w vF 6 l) (hl : l.length ≤ 100000) :
    Calls Tryz.prog 140 #[.pointer (some ⟨gO, oO, none⟩), .string x] w fun e w' => e = .returned (ptrAt vF 6 (idxI l x)) ∧ Below w.heap.size w w' := by
  have hf := findField_any w vF x l h hl
  obtain ⟨a, cap, rfl, _⟩ := h
  generalize idxI l x = q at *
  go_enter Tryz.func140, Tryz.ntmps140
  go_wp2_with fail
  refine hf.mono ?_
  clear hf
  rintro e w1 ⟨rfl, hb1⟩
  go_wp2_with fail
  go_ret
  exact ⟨rfl, hb1⟩
def fitB (f : PFld) : Bool := !isList f.ty && (scalB (coreT f.ty) && (decide (f.auth = bE) && (decide (f.hide_ = bE) && decide (f.arg = bE))))
set_option maxHeartbeats 1000000 in
theorem fits_nil (w : World) : Calls Tryz.prog 143 #[.pointer none] w fun e w' => e = .returned (.bool false) ∧ Below w.heap.size w w' := by
  go_enter Tryz.func143, Tryz.ntmps143
  go_wp2_with fail
  go_ret
  exact ⟨rfl, Below.refl _ _⟩
set_option maxHeartbeats 2000000 in
set_option maxRecDepth 100000 in
theorem fits_any (w : World) (g o B : Nat) (f : PFld) (u : Value) (hf : FldAt w g o f u) (ht : TyAt w B u f.ty) :
    Calls Tryz.prog 143 #[.pointer (some ⟨g, o, none⟩)] w fun e w' => e = .returned (.bool (fitB f)) ∧ Below w.heap.size w w' := by
  have c1 := hf.c1
  have c2 := hf.c2
  have c3 := hf.c3
  have c5 := hf.c5
  clear hf
  obtain ⟨fn, fa, fh, fx, fs, ty⟩ := f
  simp only [] at *
  cases ty with
  | list t st =>
    obtain ⟨k, u1, rfl, _, hb, _⟩ := ht
    have d1 : w.cell? ⟨k, 1, none⟩ = some (.int .i64 1) := cell_of_block hb 1
    clear hb
    rw [show fitB ⟨fn, fa, fh, fx, fs, .list t st⟩ = false from rfl]
    go_enter Tryz.func143, Tryz.ntmps143
    go_wp2_with fail
    go_ret
    exact ⟨rfl, Below.refl _ _⟩
  | one n st =>
    obtain ⟨k, rfl, _, hb⟩ := ht
    have d0 : w.cell? ⟨k, 0, none⟩ = some (.string n) := cell_of_block hb 0
    have d1 : w.cell? ⟨k, 1, none⟩ = some (.int .i64 0) := cell_of_block hb 1
    clear hb
    have hs := isScalar_any n
    have HQ := hide (show fitB ⟨fn, fa, fh, fx, fs, .one n st⟩ = (scalB n && (fa.toList.isEmpty && (fh.toList.isEmpty && fx.toList.isEmpty))) from by unfold fitB; rw [empty_iff, empty_iff, empty_iff]; rfl)
    generalize fitB ⟨fn, fa, fh, fx, fs, .one n st⟩ = FF at *
    generalize scalB n = q1 at *
    cases q1
    · go_enter Tryz.func143, Tryz.ntmps143
      go_wp2_with fail
      refine (hs w).mono ?_
      rintro e w0 ⟨rfl, hw0⟩
      have hw0 := hw0.symm
      subst hw0
      go_wp2_with fail
      go_ret
      exact ⟨ret_bool (by rw [HQ.out]; rfl), Below.refl _ _⟩
    · cases t1 : fa.toList.isEmpty
      · rw [t1] at HQ
        go_enter Tryz.func143, Tryz.ntmps143
        go_wp2_with fail
        refine (hs w).mono ?_
        rintro e w0 ⟨rfl, hw0⟩
        have hw0 := hw0.symm
        subst hw0
        go_wp2_with fail
        go_ret
        exact ⟨ret_bool (by rw [HQ.out]; rfl), Below.refl _ _⟩
      · cases t2 : fh.toList.isEmpty
        · rw [t1, t2] at HQ
          go_enter Tryz.func143, Tryz.ntmps143
          go_wp2_with fail
          refine (hs w).mono ?_
          rintro e w0 ⟨rfl, hw0⟩
          have hw0 := hw0.symm
          subst hw0
          go_wp2_with fail
          go_ret
          exact ⟨ret_bool (by rw [HQ.out]; rfl), Below.refl _ _⟩
        · rw [t1, t2] at HQ
          go_enter Tryz.func143, Tryz.ntmps143
          go_wp2_with fail
          refine (hs w).mono ?_
          rintro e w0 ⟨rfl, hw0⟩
          have hw0 := hw0.symm
          subst hw0
          go_wp2_with fail
          go_ret
          exact ⟨ret_bool (by rw [HQ.out]; simp), Below.refl _ _⟩
/-- may a rule name this? -/
def fitAt (l : List PFld) (n : ByteArray) : Bool := if idxI (l.map PFld.name) n < 0 then false else match l[(idxI (l.map PFld.name) n).toNat]? with
  | some f => fitB f
  | none => false
def leafB (roles : List ByteArray) (l : List PFld) (x : Leaf) : Bool := if x.1 = true then has roles x.2 else fitAt l x.2

set_option maxHeartbeats 4000000 in
set_option maxRecDepth 100000 in
theorem ruleRight_any (w : World) (S : Nat) (vR vO vI vU vN : Value) (LR : List (RRole × Value)) (LO : List (PObj × Value × Value × Value)) (LI : List (PIf × Value)) (LU : List (PUn × Value)) (names : List ByteArray) (gO oO B : Nat) (vF : Value) (l : List PFld) (Q : Nat → Prop) (h : SV w S vR vO vI vU vN LR LO LI LU names) (hcF : w.cell? ⟨gO, oO + 1, none⟩ = some vF) (hF : PFlds w B vF l) (hl : l.length ≤ 100000) : ∀ (v : Value) (ls : List Leaf), RuAt w Q v ls → ∀ W, Below w.heap.size w W →
    Calls Tryz.prog 103 #[.pointer (some ⟨S, 0, none⟩), v, .pointer (some ⟨gO, oO, none⟩)] W fun e w' => e = .returned (.bool (ls.all (leafB (LR.map rN) l))) ∧ Below W.heap.size W w' := by
  intro v ls hr
  induction hr with
  | is k n a c d e hq hb =>
    intro W hW
    have hb2 := (hW.block k (lt_of_block hb)).trans hb
    have c0 : W.cell? ⟨k, 0, none⟩ = some (.string n) := cell_of_block hb2 0
    have c1 : W.cell? ⟨k, 1, none⟩ = some (.int .i64 4) := cell_of_block hb2 1
    have hc := sRole_any W S vR vO vI vU vN LR LO LI LU names n (h.below hW)
    have hn := ptrAt_nil (h.below hW).rowRole n
    have HQ := hide (show [(true, n)].all (leafB (LR.map rN) l) = decide (¬ idxI (LR.map rN) n < 0) from by simp [leafB, has])
    generalize [(true, n)].all (leafB (LR.map rN) l) = FF at *
    generalize ptrAt vR 2 (idxI (LR.map rN) n) = pp at *
    generalize idxI (LR.map rN) n = q at *
    clear h hcF hF hb hb2
    by_cases hq : q < 0
    · have t1 := hn.1 hq
      subst t1
      have HE := hide (show FF = false from by rw [HQ.out]; simp [hq])
      clear hn hq HQ
      go_enter Tryz.func103, Tryz.ntmps103
      go_wp2_with fail
      refine hc.mono ?_
      clear hc
      rintro e w1 ⟨rfl, hb1⟩
      go_wp2_with fail
      go_ret
      exact ⟨ret_bool (by rw [HE.out]), hb1⟩
    · obtain ⟨a1, t1⟩ := hn.2 hq
      subst t1
      have HE := hide (show FF = true from by rw [HQ.out]; simp [hq])
      clear hn hq HQ
      go_enter Tryz.func103, Tryz.ntmps103
      go_wp2_with fail
      refine hc.mono ?_
      clear hc
      rintro e w1 ⟨rfl, hb1⟩
      go_wp2_with fail
      go_ret
      exact ⟨ret_bool (by rw [HE.out]), hb1⟩
  | eq k n a c d e hq hb =>
    intro W hW
    have hb2 := (hW.block k (lt_of_block hb)).trans hb
    have c0 : W.cell? ⟨k, 0, none⟩ = some (.string n) := cell_of_block hb2 0
    have c1 : W.cell? ⟨k, 1, none⟩ = some (.int .i64 5) := cell_of_block hb2 1
    obtain ⟨L, hL, hrow⟩ := hF.row
    have hlen : L.length = l.length := by rw [← hL]; simp
    have hrd : Rowed w vF 6 (l.map PFld.name) := by rw [← rowF_names L l hL]; exact hrow.rowed fN (fun _ => rfl) (fun _ => rfl)
    have HC1 := hide (fun W' (hb : Below w.heap.size w W') => fieldOf_any W' gO oO vF n (l.map PFld.name) (cell_below hb hcF) (hrd.below hb) (by simpa using hl))
    have hfit : ∀ W', Below w.heap.size w W' → Calls Tryz.prog 143 #[ptrAt vF 6 (idxI (l.map PFld.name) n)] W' fun e w' => e = .returned (.bool (fitAt l n)) ∧ Below W'.heap.size W' w' := by
      intro W' hb'
      by_cases hq : idxI (l.map PFld.name) n < 0
      · rw [(ptrAt_nil hrd n).1 hq, show fitAt l n = false from by unfold fitAt; rw [if_pos hq]]
        exact fits_nil W'
      · have hbd := idxI_bound (l.map PFld.name) n
        obtain ⟨j, hj⟩ : ∃ j : Nat, idxI (l.map PFld.name) n = j := ⟨(idxI (l.map PFld.name) n).toNat, by omega⟩
        have hjl : j < L.length := by rw [hj] at hbd; simp at hbd; omega
        have hx := List.getElem?_eq_getElem hjl
        obtain ⟨g, cap, hv, hfa, hta⟩ := hrow.fldAt j _ hx
        have hlj : l[j]? = some L[j].1 := by rw [← hL, List.getElem?_map, hx]; rfl
        rw [show fitAt l n = fitB L[j].1 from by unfold fitAt; rw [if_neg hq, hj]; simp only [Int.toNat_natCast]; rw [hlj]]
        rw [show ptrAt vF 6 (idxI (l.map PFld.name) n) = .pointer (some ⟨g, j * 6, none⟩) from by unfold ptrAt; rw [if_neg hq, hj, hv]; simp]
        exact fits_any W' g (j * 6) B _ _ (hfa.below hb') (hta.stays (Stay.of_below hb'))
    have HC2 := hide hfit
    have HQ := hide (show [(false, n)].all (leafB (LR.map rN) l) = fitAt l n from by simp [leafB])
    generalize [(false, n)].all (leafB (LR.map rN) l) = FF at *
    generalize fitAt l n = GG at *
    generalize ptrAt vF 6 (idxI (l.map PFld.name) n) = pp at *
    have HW := hide hW
    clear h hcF hF hb hb2 hfit hrow hL hlen hrd
    go_enter Tryz.func103, Tryz.ntmps103
    go_wp2_with fail
    go_region_with (first
      | (go_at_call 140; refine (HC1.out _ ?_).mono ?_; (first | exact HW.out.drew | exact HW.out); rintro e w1 ⟨rfl, hb1⟩; have HB1 := hide (HW.out.drew.trans (hb1.mono HW.out.size)))
      | (go_at_call 143; refine (HC2.out _ ?_).mono ?_; (first | exact HB1.out | exact HB1.out.drew); rintro e w2 ⟨rfl, hb2⟩))
    all_goals (
      go_wp2_with fail
      go_ret
      exact ⟨ret_bool (by rw [HQ.out]), ((Below.refl _ _).drew.trans hb1).trans (hb2.mono hb1.size)⟩)
  | node k c n v x y z vs ls hq hc4 hb hown hQ hvl hlen hsub ih =>
    intro W hW
    have hb2 := (hW.block k (lt_of_block hb)).trans hb
    have c0 : W.cell? ⟨k, 0, none⟩ = some (.string n) := cell_of_block hb2 0
    have c1 : W.cell? ⟨k, 1, none⟩ = some (.int .i64 c) := cell_of_block hb2 1
    have c2 : W.cell? ⟨k, 2, none⟩ = some v := cell_of_block hb2 2
    have hO := ownsRow_below hown hW
    obtain ⟨aV, cV, rfl⟩ := own_slice hO
    have t4 : ((c : Int) == 4) = false := by simp; omega
    have t5 : ((c : Int) == 5) = false := by simp; omega
    have HIH := hide ih
    have HO := hide hO
    have HQ := hide (show ls.flatten.all (leafB (LR.map rN) l) = ls.all (fun x => x.all (leafB (LR.map rN) l)) from by rw [List.all_flatten])
    have HLEN := hide hlen
    have HW := hide hW
    generalize ls.flatten.all (leafB (LR.map rN) l) = FF at *
    clear h hcF hF hb hb2 ih hO hsub hQ hown hlen
    go_enter Tryz.func103, Tryz.ntmps103
    go_wp2_with fail
    go_loopg [8, 40] vs.length (fun m v8 v40 wr => ∃ j : Nat, v40 = .int .i64 j ∧ j ≤ vs.length ∧ vs.length - j ≤ m ∧ Below W.heap.size W wr ∧ (ls.take j).all (fun x => x.all (leafB (LR.map rN) l)) = true)
    case atStart => exact ⟨0, rfl, Nat.zero_le _, by omega, Below.refl _ _, by simp⟩
    case round =>
      obtain ⟨j, rfl, hj, hm, hbj, hall⟩ := hrel
      have HALL := hide hall
      clear hall
      by_cases hlt : j < vs.length
      · have hx := List.getElem?_eq_getElem hlt
        have hlj : j < ls.length := by rw [← HLEN.out]; exact hlt
        have hy := List.getElem?_eq_getElem hlj
        have hOr := ownsRow_below HO.out hbj
        have hcell : wr.cell? (⟨(match aV with | some a => a.block | none => 0), j, none⟩ : Addr) = some vs[j] := by
          rcases hOr.2 with ⟨e, e0⟩ | ⟨g, cap, cur, hv, hg, hh, _⟩
          · omega
          · cases hv
            have := hOr.cellAt j (by omega)
            simpa [hx] using this
        obtain ⟨g, ha⟩ : ∃ g, aV = some ⟨g, 0, none⟩ := by
          rcases hOr.2 with ⟨e, e0⟩ | ⟨g, cap, cur, hv, _⟩
          · omega
          · cases hv; exact ⟨g, rfl⟩
        subst ha
        simp only at hcell
        have hbw := HW.out.trans (hbj.mono HW.out.size)
        have hci := HIH.out j _ _ hx hy wr hbw
        have HY := hide hy
        clear hx hy hOr
        generalize vs[j] = uj at *
        generalize hlv : ls[j] = lv at *
        clear hlv
        have HXJ := hide (show (ls.take (j + 1)).all (fun x => x.all (leafB (LR.map rN) l)) = lv.all (leafB (LR.map rN) l) from by
          rw [List.take_add_one, HY.out, List.all_append, HALL.out]; simp)
        cases hv : lv.all (leafB (LR.map rN) l)
        · rw [hv] at hci HXJ
          have HE := hide (show FF = false from by
            rw [HQ.out, Bool.eq_false_iff]
            intro hT
            rw [List.all_eq_true] at hT
            have := hT lv (List.mem_of_getElem? HY.out)
            rw [hv] at this; cases this)
          clear hv
          go_wp2_with fail
          refine hci.mono ?_
          clear hci
          rintro e w1 ⟨rfl, hb1⟩
          have hbb := hbj.trans (hb1.mono hbj.size)
          clear hb1
          go_wp2_with fail
          go_ret
          exact ⟨ret_bool (by rw [HE.out]), hbb⟩
        · rw [hv] at hci HXJ
          clear hv
          go_wp2_with fail
          refine hci.mono ?_
          clear hci
          rintro e w1 ⟨rfl, hb1⟩
          have hbb := hbj.trans (hb1.mono hbj.size)
          clear hb1
          go_wp2_with fail
          go_roundg (vs.length - (j + 1))
          case measure => omega
          case rel => exact ⟨j + 1, by go_num, by omega, Nat.le_refl _, hbb, HXJ.out⟩
      · go_wp2_with fail
        go_ret
        exact ⟨ret_bool (by
          rw [HQ.out]
          have := HALL.out
          rw [List.take_of_length_le (by have := HLEN.out; omega)] at this
          rw [this]), hbj⟩
end Go.Proofs.YtpggfgjongkihaaGreat
