/- The reference's reader: peek. The reference's reader: is, may, must, any, name, done. The reference's reader: types. -/
import Derived.Test.YtpggfgjongkihaaGreatM02
import Derived.Deep.QuietTactic
import Derived.BigQuiet
namespace Go.Proofs.YtpggfgjongkihaaGreat
open Go.RowKit
theorem res3_below (w : World) (o : Obj) (n : Nat) (x y z : Value) : Below w.heap.size w (((((w.alloc o).drewN n).setCell ⟨w.heap.size, 0, none⟩ x).setCell ⟨w.heap.size, 1, none⟩ y).setCell ⟨w.heap.size, 2, none⟩ z) :=
  (((below_drewN ((Below.refl _ _).alloc (Nat.le_refl _) _) _).setCell (Nat.le_refl _) _).setCell (Nat.le_refl _) _).setCell (Nat.le_refl _) _
theorem flat3_get (f : Tk → List Value) (hf : ∀ t, (f t).length = 3) : ∀ (ts : List Tk) (a : Nat) (t : Tk) (j : Nat), ts[a]? = some t → j < 3 → (ts.flatMap f)[a * 3 + j]? = (f t)[j]?
  | [], a, t, j, h, _ => by simp at h
  | x :: ts, 0, t, j, h, hj => by
    simp at h; subst h
    rw [List.flatMap_cons, List.getElem?_append_left (by rw [hf]; omega)]; simp
  | x :: ts, a + 1, t, j, h, hj => by
    rw [List.flatMap_cons, List.getElem?_append_right (by rw [hf]; omega), hf]
    rw [show (a + 1) * 3 + j - 3 = a * 3 + j by omega]
    exact flat3_get f hf ts a t j (by simpa using h) hj
set_option maxHeartbeats 1000000 in
theorem peek_bad (w : World) (b : Nat) (hb : b < w.heap.size)
    (c2 : w.cell? ⟨b, 2, none⟩ = some (.bool true)) :
    Calls Tryz.prog 69 #[.pointer (some ⟨b, 0, none⟩)] w fun e w' => e = .returned (.agg #[.int .i64 0, .string ⟨#[]⟩, .int .i64 0]) ∧ Below w.heap.size w w' := by
  go_enter Tryz.func69, Tryz.ntmps69
  go_wp2_with fail
  go_quiet (fail)
  go_wp2_with fail
  exact bodyPost_ret (v := .agg #[.int .i64 0, .string ⟨#[]⟩, .int .i64 0]) (by simp [results, Tryz.results69, go_sem]) rfl ⟨rfl, res3_below _ _ _ _ _ _⟩
set_option maxHeartbeats 1000000 in
theorem peek_end (w : World) (b : Nat) (A : Option Addr) (n cap a : Nat) (hb : b < w.heap.size) (_hn : n ≤ 800) (ha : n ≤ a) (_ha2 : a ≤ 800)
    (c0 : w.cell? ⟨b, 0, none⟩ = some (.slice A n cap)) (c1 : w.cell? ⟨b, 1, none⟩ = some (.int .i64 a)) (c2 : w.cell? ⟨b, 2, none⟩ = some (.bool false)) :
    Calls Tryz.prog 69 #[.pointer (some ⟨b, 0, none⟩)] w fun e w' => e = .returned (.agg #[.int .i64 0, .string ⟨#[]⟩, .int .i64 0]) ∧ Below w.heap.size w w' := by
  have hd : decide ((n : Int) ≤ a) = true := by simp; omega
  go_enter Tryz.func69, Tryz.ntmps69
  go_wp2_with fail
  go_quiet (fail)
  go_wp2_with fail
  exact bodyPost_ret (v := .agg #[.int .i64 0, .string ⟨#[]⟩, .int .i64 0]) (by simp [results, Tryz.results69, go_sem]) rfl ⟨rfl, res3_below _ _ _ _ _ _⟩
set_option maxHeartbeats 1000000 in
theorem peek_at (w : World) (b : Nat) (g : Nat) (n cap a : Nat) (x : Int) (y : ByteArray) (z : Int) (hb : b < w.heap.size) (hg : g < w.heap.size) (_hn : n ≤ 800) (ha : a < n)
    (c0 : w.cell? ⟨b, 0, none⟩ = some (.slice (some ⟨g, 0, none⟩) n cap)) (c1 : w.cell? ⟨b, 1, none⟩ = some (.int .i64 a)) (c2 : w.cell? ⟨b, 2, none⟩ = some (.bool false))
    (t0 : w.cell? ⟨g, a * 3, none⟩ = some (.int .i64 x)) (t1 : w.cell? ⟨g, a * 3 + 1, none⟩ = some (.string y)) (t2 : w.cell? ⟨g, a * 3 + 2, none⟩ = some (.int .i64 z)) :
    Calls Tryz.prog 69 #[.pointer (some ⟨b, 0, none⟩)] w fun e w' => e = .returned (.agg #[.int .i64 x, .string y, .int .i64 z]) ∧ Below w.heap.size w w' := by
  have hd : decide ((n : Int) ≤ a) = false := by simp; omega
  go_enter Tryz.func69, Tryz.ntmps69
  go_wp2_with fail
  go_quiet (fail)
  go_wp2_with fail
  go_region
  all_goals (try go_wp2)
  all_goals (refine bodyPost_ret (v := .agg #[.int .i64 x, .string y, .int .i64 z]) (by simp [results, Tryz.results69, go_sem]) rfl ⟨rfl, ?_⟩)
  exact res3_below _ _ _ _ _ _
theorem peek_any (w : World) (b : Nat) (L : Value) (ts : List Tk) (s : St) (h : RS w b L ts s) :
    Calls Tryz.prog 69 #[.pointer (some ⟨b, 0, none⟩)] w fun e w' => e = .returned (.agg #[.int .i64 (rk (hd s).k : Nat), .string (rs (hd s)), .int .i64 (hd s).n]) ∧ Below w.heap.size w w' := by
  obtain ⟨a, bad, h1, h2, h3⟩ := h.st
  have h4 := h.row
  have hb := lt_of_block h1
  have c0 := cell_of_block h1 0
  have c1 := cell_of_block h1 1
  have c2 := cell_of_block h1 2
  have hl := h.len
  cases bad with
  | true => rw [h3]; exact peek_bad w b hb c2
  | false =>
    simp only [Bool.false_eq_true, if_false] at h3
    obtain ⟨A, cap, rfl⟩ := own_slice h4
    by_cases ha : a < ts.length
    · rcases h4.2 with ⟨x, y⟩ | ⟨g, cap', cur, hv, hg, hh, hr⟩
      · omega
      · cases hv
        have hx : ts[a]? = some ts[a] := List.getElem?_eq_getElem ha
        have hd' : hd s = ts[a] := by rw [h3, List.drop_eq_getElem_cons ha]; rfl
        have q : ∀ j, j < 3 → w.cell? ⟨g, a * 3 + j, none⟩ = (refTok ts[a])[j]? := fun j hj => by
          rw [h4.cellAt _ (by omega)]; exact flat3_get refTok (fun _ => rfl) ts a _ j hx hj
        rw [hd']
        exact peek_at w b g ts.length cap a _ _ _ hb (lt_of_block hh) hl ha c0 c1 c2 (q 0 (by omega)) (q 1 (by omega)) (q 2 (by omega))
    · have hd' : hd s = zTk := by rw [h3, List.drop_of_length_le (by omega)]; rfl
      rw [hd']
      exact peek_end w b A ts.length cap a hb hl (by omega) (by omega) c0 c1 c2
end Go.Proofs.YtpggfgjongkihaaGreat
namespace Go.Proofs.YtpggfgjongkihaaGreat
open Go.RowKit
def isR (s : St) (kk : Nat) (x : ByteArray) : Bool := decide (rk (hd s).k = kk) && decide (rs (hd s) = x)
theorem beq_bytes (y x : ByteArray) : (y.toList == x.toList) = decide (y = x) := by
  rw [Lib.toList_data, Lib.toList_data, Bool.eq_iff_iff]
  simp only [beq_iff_eq, decide_eq_true_eq]
  constructor
  · intro h; exact ByteArray.ext (Array.toList_inj.1 h)
  · intro h; rw [h]
theorem isR_pos (s : St) (kk : Nat) (x : ByteArray) (hk : kk ≠ 0) (h : isR s kk x = true) : isK s 0 = false := by
  unfold isR at h
  simp only [Bool.and_eq_true, decide_eq_true_eq] at h
  unfold isK
  rw [beq_eq_false_iff_ne]
  intro e
  rw [e] at h
  exact hk h.1.symm
theorem RS.next {w : World} {b : Nat} {L : Value} {ts : List Tk} {s : St} (h : RS w b L ts s) (hk : isK s 0 = false) : ∃ a : Nat, w.cell? ⟨b, 1, none⟩ = some (.int .i64 a) ∧ w.frozen? ⟨b, 1, none⟩ = false ∧ a ≤ 800 ∧ RS (w.setCell ⟨b, 1, none⟩ (.int .i64 ((a : Int) + 1))) b L ts (tl s) := by
  obtain ⟨a, bad, h1, h2, h3⟩ := h.st
  have hl := h.len
  cases bad with
  | true => rw [h3] at hk; simp [isK, hd, zTk] at hk
  | false =>
    simp only [Bool.false_eq_true, if_false] at h3
    have ha : a < ts.length := by
      rcases Nat.lt_or_ge a ts.length with x | x
      · exact x
      · rw [h3, List.drop_of_length_le x] at hk; simp [isK, hd, zTk] at hk
    refine ⟨a, cell_of_block h1 1, frozen_of_block h1 1, by omega, ⟨⟨a + 1, false, ?_, by omega, ?_⟩, ?_, hl, h.wf⟩⟩
    · rw [setCell_block h1]; rfl
    · rw [h3, List.drop_eq_getElem_cons ha]; simp [tl]
    · exact ownsRow_keep h.row ((Keep.refl b w).setCell 1 _) h1 (by decide)
theorem RS.fail {w : World} {b : Nat} {L : Value} {ts : List Tk} {s : St} (h : RS w b L ts s) : (∃ q, w.cell? ⟨b, 2, none⟩ = some (.bool q)) ∧ w.frozen? ⟨b, 2, none⟩ = false ∧ RS (w.setCell ⟨b, 2, none⟩ (.bool true)) b L ts none := by
  obtain ⟨a, bad, h1, h2, h3⟩ := h.st
  refine ⟨⟨bad, cell_of_block h1 2⟩, frozen_of_block h1 2, ⟨⟨a, true, ?_, h2, by simp⟩, ?_, h.len, h.wf⟩⟩
  · rw [setCell_block h1]; rfl
  · exact ownsRow_keep h.row ((Keep.refl b w).setCell 2 _) h1 (by decide)
set_option maxHeartbeats 1000000 in
theorem is_any (w : World) (b : Nat) (L : Value) (ts : List Tk) (s : St) (kk : Nat) (x : ByteArray) (h : RS w b L ts s) :
    Calls Tryz.prog 106 #[.pointer (some ⟨b, 0, none⟩), .int .i64 kk, .string x] w fun e w' => e = .returned (.bool (isR s kk x)) ∧ Below w.heap.size w w' := by
  generalize hq : isR s kk x = q
  have HQ := hide hq
  clear hq
  have hp := peek_any w b L ts s h
  unfold isR at HQ
  generalize rk (hd s).k = k1 at *
  generalize rs (hd s) = y at *
  generalize (hd s).n = n at *
  go_enter Tryz.func106, Tryz.ntmps106
  go_wp2_with fail
  refine hp.mono ?_
  clear hp
  rintro e w1 ⟨rfl, hb1⟩
  go_wp2_with fail
  all_goals go_ret
  · exact ⟨ret_bool (by rw [← HQ.out, beq_bytes]; have : (k1 : Int) = kk := by assumption
                        have e : k1 = kk := by omega
                        simp [e]), hb1.alloc hb1.size _⟩
  · exact ⟨ret_bool (by rw [← HQ.out]; have : ¬ (k1 : Int) = kk := by assumption
                        have e : ¬ k1 = kk := by omega
                        simp [e]), hb1.alloc hb1.size _⟩
set_option maxHeartbeats 1000000 in
theorem may_any (w : World) (b : Nat) (L : Value) (ts : List Tk) (s : St) (kk : Nat) (x : ByteArray) (h : RS w b L ts s) (hk : kk ≠ 0) :
    Calls Tryz.prog 67 #[.pointer (some ⟨b, 0, none⟩), .int .i64 kk, .string x] w fun e w' => e = .returned (.bool (isR s kk x)) ∧ RS w' b L ts (mayT s (isR s kk x)) ∧ Keep b w w' := by
  cases hx : isR s kk x
  · have hi := is_any w b L ts s kk x h
    rw [hx] at hi
    have H := hide h
    clear h hx hk
    go_enter Tryz.func67, Tryz.ntmps67
    go_wp2_with fail
    refine hi.mono ?_
    clear hi
    rintro e w1 ⟨rfl, hb1⟩
    go_wp2_with fail
    go_ret
    exact ⟨rfl, H.out.below hb1, Keep.of_below hb1⟩
  · have hi := is_any w b L ts s kk x h
    rw [hx] at hi
    have hp := isR_pos s kk x hk hx
    have H := hide h
    have HP := hide hp
    clear h hx hk hp
    go_enter Tryz.func67, Tryz.ntmps67
    go_wp2_with fail
    refine hi.mono ?_
    clear hi
    rintro e w1 ⟨rfl, hb1⟩
    obtain ⟨a, c1, f1, ha, hn⟩ := (H.out.below hb1).next HP.out
    have HN := hide hn
    clear hn
    go_wp2_with fail
    go_ret
    exact ⟨rfl, HN.out, (Keep.of_below hb1).setCell 1 _⟩
set_option maxHeartbeats 1000000 in
theorem must_any (w : World) (b : Nat) (L : Value) (ts : List Tk) (s : St) (kk : Nat) (x : ByteArray) (h : RS w b L ts s) (hk : kk ≠ 0) :
    Calls Tryz.prog 70 #[.pointer (some ⟨b, 0, none⟩), .int .i64 kk, .string x] w fun e w' => e = .returned (.tuple #[]) ∧ RS w' b L ts (mustT s (isR s kk x)) ∧ Keep b w w' := by
  have hi := may_any w b L ts s kk x h hk
  cases hx : isR s kk x
  · rw [hx] at hi
    clear h hx hk
    go_enter Tryz.func70, Tryz.ntmps70
    go_wp2_with fail
    refine hi.mono ?_
    clear hi
    rintro e w1 ⟨rfl, hr1, hk1⟩
    obtain ⟨⟨q, c2⟩, f2, hn⟩ := hr1.fail
    have HN := hide hn
    clear hn hr1
    go_wp2_with fail
    go_end0
    exact ⟨rfl, HN.out, hk1.setCell 2 _⟩
  · rw [hx] at hi
    clear h hx hk
    go_enter Tryz.func70, Tryz.ntmps70
    go_wp2_with fail
    refine hi.mono ?_
    clear hi
    rintro e w1 ⟨rfl, hr1, hk1⟩
    go_wp2_with fail
    go_end0
    exact ⟨rfl, hr1, hk1⟩
theorem rk_one (k : Nat) : (rk k = 1) ↔ k = 1 := by
  unfold rk; split <;> omega
theorem tok_keep {b : Nat} {w w1 : World} (h : Keep b w w1) (o : Obj) (x y z : Value) : Keep b w ((((w1.alloc o).setCell ⟨w.heap.size, 0, none⟩ x).setCell ⟨w.heap.size, 1, none⟩ y).setCell ⟨w.heap.size, 2, none⟩ z) :=
  (((h.alloc o).setNew _ (Nat.le_refl _) _).setNew _ (Nat.le_refl _) _).setNew _ (Nat.le_refl _) _
set_option maxHeartbeats 1000000 in
theorem any1_any (w : World) (b : Nat) (L : Value) (ts : List Tk) (s : St) (h : RS w b L ts s) :
    Calls Tryz.prog 66 #[.pointer (some ⟨b, 0, none⟩), .int .i64 1] w fun e w' => (∃ k n, e = .returned (.agg #[.int .i64 k, .string (nm s), .int .i64 n])) ∧ RS w' b L ts (nmT s) ∧ Keep b w w' := by
  have hlt := h.lt
  have h' : RS (w.alloc zeroTok) b L ts s := h.below ((Below.refl _ _).alloc (Nat.le_refl _) _)
  have hp := peek_any (w.alloc zeroTok) b L ts s h'
  have H := hide h'
  have H0 := hide h
  clear h h'
  by_cases h1 : (hd s).k = 1
  · have e1 : isK s 1 = true := by simp [isK, h1]
    have e2 : rk (hd s).k = 1 := (rk_one _).2 h1
    have e3 : rs (hd s) = nm s := by unfold nm; rw [if_pos e1]; unfold rs; rw [if_pos (by omega)]
    have HT := hide (show nmT s = tl s from by unfold nmT; rw [if_pos e1])
    have HP := hide (show isK s 0 = false from by simp [isK, h1])
    rw [e2, e3] at hp
    generalize nm s = y at *
    generalize (hd s).n = n at *
    clear h1 e1 e2 e3
    go_enter Tryz.func66, Tryz.ntmps66
    go_wp2_with fail
    refine hp.mono ?_
    clear hp
    rintro e w1 ⟨rfl, hb1⟩
    obtain ⟨a, c1, f1, ha, hn⟩ := ((H.out.below hb1).below ((Below.refl _ _).alloc (Nat.le_refl _) (.cells #[.int .i64 1, .string y, .int .i64 n] 137))).next HP.out
    have HN := hide hn
    have hs1 : w.heap.size < w1.heap.size := by have := hb1.size; simp at this; omega
    have hcx : ∀ j, w1.cell? ⟨w.heap.size, j, none⟩ = (w.alloc zeroTok).cell? ⟨w.heap.size, j, none⟩ := fun j => hb1.cell (by simp)
    have hf0 : ∀ j, w1.frozen? ⟨w.heap.size, j, none⟩ = false := fun j => by rw [hb1.frozen (by simp)]; exact frozen_new w _ j
    have hc0 : w1.cell? ⟨w.heap.size, 0, none⟩ = some (.int .i64 0) := by rw [hcx]; simp [zeroTok]
    have hc1 : w1.cell? ⟨w.heap.size, 1, none⟩ = some (.string ⟨#[]⟩) := by rw [hcx]; simp [zeroTok]
    have hc2 : w1.cell? ⟨w.heap.size, 2, none⟩ = some (.int .i64 0) := by rw [hcx]; simp [zeroTok]
    have hlow : Below w.heap.size w w1 := ((Below.refl _ _).alloc (Nat.le_refl _) _).trans (hb1.mono (by simp))
    have hK : ∀ x y z u, Keep b w (((((w1.alloc (.cells #[.int .i64 1, .string u, .int .i64 n] 137)).setCell ⟨b, 1, none⟩ (.int .i64 ((a : Int) + 1))).setCell ⟨w.heap.size, 0, none⟩ x).setCell ⟨w.heap.size, 1, none⟩ y).setCell ⟨w.heap.size, 2, none⟩ z) := fun x y z u =>
      (((((Keep.of_below hlow).alloc _).setCell 1 _).setNew _ (Nat.le_refl _) _).setNew _ (Nat.le_refl _) _).setNew _ (Nat.le_refl _) _
    clear hcx hn hb1
    go_wp2_with fail
    refine bodyPost_ret (v := .agg #[.int .i64 1, .string y, .int .i64 n]) (by simp [results, Tryz.results66, go_sem, hc0, hc1, hc2, hs1]) rfl ⟨⟨_, _, rfl⟩, ?_, hK _ _ _ _⟩
    rw [HT.out]
    exact HN.out.move H0.out (hK _ _ _ _) (set3_other _ _ _ (by omega) _ _ _)
  · have e1 : isK s 1 = false := by simp [isK, h1]
    have e2 : (((rk (hd s).k : Nat) : Int) != 1) = true := by
      have : ¬ rk (hd s).k = 1 := fun e => h1 ((rk_one _).1 e)
      simp; omega
    have EN := hide (show nm s = ⟨#[]⟩ from by unfold nm; rw [if_neg (by simp [e1])])
    have HT := hide (show nmT s = none from by unfold nmT; rw [if_neg (by simp [e1])])
    generalize rs (hd s) = y at *
    generalize (hd s).n = n at *
    generalize rk (hd s).k = k1 at *
    clear h1 e1
    go_enter Tryz.func66, Tryz.ntmps66
    go_wp2_with fail
    refine hp.mono ?_
    clear hp
    rintro e w1 ⟨rfl, hb1⟩
    obtain ⟨⟨q, c2⟩, f2, hn⟩ := ((H.out.below hb1).below ((Below.refl _ _).alloc (Nat.le_refl _) (.cells #[.int .i64 k1, .string y, .int .i64 n] 137))).fail
    have HN := hide hn
    have hs1 : w.heap.size < w1.heap.size := by have := hb1.size; simp at this; omega
    have hcx : ∀ j, w1.cell? ⟨w.heap.size, j, none⟩ = (w.alloc zeroTok).cell? ⟨w.heap.size, j, none⟩ := fun j => hb1.cell (by simp)
    have hf0 : ∀ j, w1.frozen? ⟨w.heap.size, j, none⟩ = false := fun j => by rw [hb1.frozen (by simp)]; exact frozen_new w _ j
    have hc0 : w1.cell? ⟨w.heap.size, 0, none⟩ = some (.int .i64 0) := by rw [hcx]; simp [zeroTok]
    have hc1 : w1.cell? ⟨w.heap.size, 1, none⟩ = some (.string ⟨#[]⟩) := by rw [hcx]; simp [zeroTok]
    have hc2 : w1.cell? ⟨w.heap.size, 2, none⟩ = some (.int .i64 0) := by rw [hcx]; simp [zeroTok]
    have hlow : Below w.heap.size w w1 := ((Below.refl _ _).alloc (Nat.le_refl _) _).trans (hb1.mono (by simp))
    have hK : ∀ x y z u, Keep b w (((((w1.alloc (.cells #[.int .i64 k1, .string u, .int .i64 n] 137)).setCell ⟨b, 2, none⟩ (.bool true)).setCell ⟨w.heap.size, 0, none⟩ x).setCell ⟨w.heap.size, 1, none⟩ y).setCell ⟨w.heap.size, 2, none⟩ z) := fun x y z u =>
      (((((Keep.of_below hlow).alloc _).setCell 2 _).setNew _ (Nat.le_refl _) _).setNew _ (Nat.le_refl _) _).setNew _ (Nat.le_refl _) _
    clear hcx hn hb1
    go_wp2_with fail
    refine bodyPost_ret (v := .agg #[.int .i64 0, .string ⟨#[]⟩, .int .i64 0]) (by simp [results, Tryz.results66, go_sem, hc0, hc1, hc2, hs1]) rfl ⟨⟨_, _, by rw [EN.out]⟩, ?_, hK _ _ _ _⟩
    rw [HT.out]
    exact HN.out.move H0.out (hK _ _ _ _) (set3_other _ _ _ (by omega) _ _ _)
set_option maxHeartbeats 1000000 in
theorem name_any (w : World) (b : Nat) (L : Value) (ts : List Tk) (s : St) (h : RS w b L ts s) :
    Calls Tryz.prog 34 #[.pointer (some ⟨b, 0, none⟩)] w fun e w' => e = .returned (.string (nm s)) ∧ RS w' b L ts (nmT s) ∧ Keep b w w' := by
  have hp := any1_any w b L ts s h
  clear h
  generalize nm s = y at *
  go_enter Tryz.func34, Tryz.ntmps34
  go_wp2_with fail
  refine hp.mono ?_
  clear hp
  rintro e w1 ⟨⟨k, n, rfl⟩, hr1, hk1⟩
  go_wp2_with fail
  go_ret
  exact ⟨rfl, hr1.below ((Below.refl _ _).alloc (Nat.le_refl _) _), hk1.alloc _⟩
end Go.Proofs.YtpggfgjongkihaaGreat
namespace Go.Proofs.YtpggfgjongkihaaGreat
open Go.RowKit
def mkS (K : Nat) : ByteArray := ofB [signsB.data.toList.getD (K - 5) 0]
theorem signs_inj (k K : Nat) (h1 : 5 ≤ k) (h2 : k ≤ 17) (h3 : 5 ≤ K) (h4 : K ≤ 17) (h : signsB.data.toList.getD (k - 5) 0 = signsB.data.toList.getD (K - 5) 0) : k = K := by
  have key : ∀ i j : Fin 13, signsB.data.toList.getD i.val 0 = signsB.data.toList.getD j.val 0 → i = j := by decide +kernel
  have := key ⟨k - 5, by omega⟩ ⟨K - 5, by omega⟩ h
  have := congrArg Fin.val this
  simp only at this
  omega
theorem isR_mark (s : St) (K : Nat) (h3 : 5 ≤ K) (h4 : K ≤ 17) (hok : hd s = zTk ∨ okT (hd s)) : isR s 4 (mkS K) = isK s K := by
  unfold isR isK
  rcases hok with e | ⟨a, b, _⟩
  · rw [e]; simp [zTk, rk]; omega
  · by_cases hk : (hd s).k ≤ 3
    · have : rk (hd s).k = (hd s).k := by unfold rk; rw [if_pos hk]
      rw [this]
      rw [decide_eq_false (by omega), Bool.false_and]; symm; rw [beq_eq_false_iff_ne]; omega
    · have e1 : rk (hd s).k = 4 := by unfold rk; rw [if_neg hk]
      rw [e1, decide_eq_true rfl, Bool.true_and]
      by_cases h5 : (hd s).k = 4
      · have e2 : rs (hd s) = ⟨#[46, 46, 46]⟩ := by unfold rs; rw [if_neg hk, if_pos h5]
        rw [e2, h5]
        rw [decide_eq_false (by intro e; have := congrArg ByteArray.size e; rw [show (mkS K).size = 1 from rfl] at this; exact absurd this (by decide))]
        symm; rw [beq_eq_false_iff_ne]; omega
      · have e2 : rs (hd s) = mkS (hd s).k := by unfold rs; rw [if_neg hk, if_neg h5]; rfl
        rw [e2]
        by_cases e : (hd s).k = K
        · rw [e]; simp
        · rw [decide_eq_false]
          · symm; rw [beq_eq_false_iff_ne]; exact e
          · intro x
            have := congrArg (fun b : ByteArray => b.data.toList) x
            simp only [mkS, ofB] at this
            exact e (signs_inj _ _ (by omega) b h3 h4 (by simpa using this))
theorem isR_word (s : St) (x : ByteArray) : isR s 1 x = isW s x := by
  unfold isR isW
  by_cases h : (hd s).k = 1
  · have e1 : rk (hd s).k = 1 := (rk_one _).2 h
    have e2 : rs (hd s) = (hd s).s := by unfold rs; rw [if_pos (by omega)]
    rw [e1, e2, h]
    simp only [decide_true, BEq.rfl, Bool.true_and]
  · have : ¬ rk (hd s).k = 1 := fun e => h ((rk_one _).1 e)
    rw [decide_eq_false this, Bool.false_and]
    simp [h]
theorem mayM (w : World) (b : Nat) (L : Value) (ts : List Tk) (s : St) (K : Nat) (x : ByteArray) (hx : x = mkS K) (h3 : 5 ≤ K) (h4 : K ≤ 17) (h : RS w b L ts s) :
    Calls Tryz.prog 67 #[.pointer (some ⟨b, 0, none⟩), .int .i64 4, .string x] w fun e w' => e = .returned (.bool (isK s K)) ∧ RS w' b L ts (mayT s (isK s K)) ∧ Keep b w w' := by
  have := may_any w b L ts s 4 x h (by decide)
  rw [hx, isR_mark s K h3 h4 h.hdok] at this
  rw [hx]
  exact this
theorem mayW (w : World) (b : Nat) (L : Value) (ts : List Tk) (s : St) (x : ByteArray) (h : RS w b L ts s) :
    Calls Tryz.prog 67 #[.pointer (some ⟨b, 0, none⟩), .int .i64 1, .string x] w fun e w' => e = .returned (.bool (isW s x)) ∧ RS w' b L ts (mayT s (isW s x)) ∧ Keep b w w' := by
  have := may_any w b L ts s 1 x h (by decide)
  rw [isR_word] at this
  exact this
theorem mustM (w : World) (b : Nat) (L : Value) (ts : List Tk) (s : St) (K : Nat) (x : ByteArray) (hx : x = mkS K) (h3 : 5 ≤ K) (h4 : K ≤ 17) (h : RS w b L ts s) :
    Calls Tryz.prog 70 #[.pointer (some ⟨b, 0, none⟩), .int .i64 4, .string x] w fun e w' => e = .returned (.tuple #[]) ∧ RS w' b L ts (mustT s (isK s K)) ∧ Keep b w w' := by
  have := must_any w b L ts s 4 x h (by decide)
  rw [hx, isR_mark s K h3 h4 h.hdok] at this
  rw [hx]
  exact this
theorem mustW (w : World) (b : Nat) (L : Value) (ts : List Tk) (s : St) (x : ByteArray) (h : RS w b L ts s) :
    Calls Tryz.prog 70 #[.pointer (some ⟨b, 0, none⟩), .int .i64 1, .string x] w fun e w' => e = .returned (.tuple #[]) ∧ RS w' b L ts (mustT s (isW s x)) ∧ Keep b w w' := by
  have := must_any w b L ts s 1 x h (by decide)
  rw [isR_word] at this
  exact this
def rType : Nat → St → ByteArray × St
  | 0, _ => (⟨#[]⟩, none)
  | f + 1, s =>
    let p := if isK s 12 = true then (⟨#[91]⟩ ++ (rType f (tl s)).1 ++ ⟨#[93]⟩, mustT (rType f (tl s)).2 (isK (rType f (tl s)).2 13)) else (nm s, nmT s)
    if isK p.2 5 = true then (p.1 ++ ⟨#[33]⟩, tl p.2) else (p.1, p.2)
theorem nm_size {w : World} {b : Nat} {L : Value} {ts : List Tk} {s : St} (h : RS w b L ts s) : (nm s).size ≤ 4000 := by
  unfold nm
  split
  · rcases h.hdok with e | e
    · rw [e]; decide
    · exact e.2.2.1
  · decide
theorem rType_succ (f : Nat) (s : St) : rType (f + 1) s = (let p := if isK s 12 = true then (⟨#[91]⟩ ++ (rType f (tl s)).1 ++ ⟨#[93]⟩, mustT (rType f (tl s)).2 (isK (rType f (tl s)).2 13)) else (nm s, nmT s)
    if isK p.2 5 = true then (p.1 ++ ⟨#[33]⟩, tl p.2) else (p.1, p.2)) := rfl
set_option maxHeartbeats 1000000 in
theorem typeText_any : ∀ (f : Nat) (w : World) (b : Nat) (L : Value) (ts : List Tk) (s : St), ln s ≤ f → f ≤ 801 → RS w b L ts s →
    Calls Tryz.prog 108 #[.pointer (some ⟨b, 0, none⟩)] w fun e w' => e = .returned (.string (rType f s).1) ∧ RS w' b L ts (rType f s).2 ∧ Keep b w w' ∧ (rType f s).1.size ≤ 4001 + 3 * f := by
  intro f
  induction f with
  | zero =>
    intro w b L ts s hl hf h
    have hs : s = none := by match s, hl with | none, _ => rfl | some l, hl => simp [ln] at hl
    subst hs
    have hm := mayM w b L ts none 12 ⟨#[91]⟩ rfl (by decide) (by decide) h
    go_enter Tryz.func108, Tryz.ntmps108
    go_wp2_with fail
    refine hm.mono ?_
    clear hm
    rw [isK_none 12 (by decide)]
    rintro e w1 ⟨rfl, hr1, hk1⟩
    have hm := name_any w1 b L ts none hr1
    go_wp2_with fail
    refine hm.mono ?_
    clear hm
    rintro e w2 ⟨rfl, hr2, hk2⟩
    have hm := mayM w2 b L ts none 5 ⟨#[33]⟩ rfl (by decide) (by decide) hr2
    rw [isK_none 5 (by decide)] at hm
    go_wp2_with fail
    refine hm.mono ?_
    clear hm
    rintro e w3 ⟨rfl, hr3, hk3⟩
    go_wp2_with fail
    go_ret
    exact ⟨rfl, hr3, (hk1.trans hk2).trans hk3, by decide⟩
  | succ f ih =>
    intro w b L ts s hl hf h
    have IH := hide ih
    clear ih
    have hm := mayM w b L ts s 12 ⟨#[91]⟩ rfl (by decide) (by decide) h
    cases h12 : isK s 12
    · rw [h12] at hm
      go_enter Tryz.func108, Tryz.ntmps108
      go_wp2_with fail
      refine hm.mono ?_
      clear hm
      rintro e w1 ⟨rfl, hr1, hk1⟩
      have hr1 : RS w1 b L ts s := hr1
      have hm := name_any w1 b L ts s hr1
      have hnz := nm_size h
      go_wp2_with fail
      refine hm.mono ?_
      clear hm
      rintro e w2 ⟨rfl, hr2, hk2⟩
      have hk3 := hk1.trans hk2
      clear hk1 hk2 hr1
      have H12 := hide h12
      clear h12
      have hm5 := mayM w2 b L ts (nmT s) 5 ⟨#[33]⟩ rfl (by decide) (by decide) hr2
      cases h5 : isK (nmT s) 5
      · rw [h5] at hm5
        have HE := hide (show rType (f + 1) s = (nm s, nmT s) from by rw [rType_succ, H12.out]; simp only [Bool.false_eq_true, if_false]; rw [if_neg (by rw [h5]; decide)])
        clear h5
        go_wp2_with fail
        refine hm5.mono ?_
        clear hm5
        rintro e w9 ⟨rfl, hr9, hk9⟩
        go_wp2_with fail
        go_ret
        exact ⟨by rw [HE.out]; rfl, by rw [HE.out]; exact hr9, hk3.trans hk9, by rw [HE.out]; simp only; omega⟩
      · rw [h5] at hm5
        have HE := hide (show rType (f + 1) s = (nm s ++ ⟨#[33]⟩, tl (nmT s)) from by rw [rType_succ, H12.out]; simp only [Bool.false_eq_true, if_false]; rw [if_pos h5])
        clear h5
        go_wp2_with fail
        refine hm5.mono ?_
        clear hm5
        rintro e w9 ⟨rfl, hr9, hk9⟩
        go_wp2_with fail
        go_ret
        exact ⟨by rw [HE.out]; rfl, by rw [HE.out]; exact hr9, hk3.trans hk9, by rw [HE.out]; simp only [ByteArray.size_append]; have : (⟨#[33]⟩ : ByteArray).size = 1 := rfl; omega⟩
    · rw [h12] at hm
      have hlt := ln_tl_lt s 12 (by decide) h12
      have H12 := hide h12
      clear h12
      go_enter Tryz.func108, Tryz.ntmps108
      go_wp2_with fail
      refine hm.mono ?_
      clear hm
      rintro e w1 ⟨rfl, hr1, hk1⟩
      have hr1 : RS w1 b L ts (tl s) := hr1
      have c2 := hr1.badc
      have hnn : (tl s).isNone = false := by
        match s, H12.out with
        | none, x => rw [isK_none 12 (by decide)] at x; cases x
        | some [], x => rfl
        | some (t :: l), x => rfl
      rw [hnn] at c2
      clear hnn
      have hm := IH.out w1 b L ts (tl s) (by omega) (by omega) hr1
      clear hr1
      go_wp2_with fail
      refine hm.mono ?_
      clear hm
      rintro e w2 ⟨rfl, hr2, hk2, hz2⟩
      have HE0 := hide (rType_succ f s)
      rw [H12.out] at HE0
      generalize (rType f (tl s)).1 = y at *
      generalize (rType f (tl s)).2 = s2 at *
      have hm := mustM w2 b L ts s2 13 ⟨#[93]⟩ rfl (by decide) (by decide) hr2
      clear hr2 c2
      go_wp2_with fail
      refine hm.mono ?_
      clear hm
      rintro e w3 ⟨rfl, hr3, hk3⟩
      have hk4 := (hk1.trans hk2).trans hk3
      clear hk1 hk2 hk3
      generalize mustT s2 (isK s2 13) = s3 at *
      have hm5 := mayM w3 b L ts (s3) 5 ⟨#[33]⟩ rfl (by decide) (by decide) hr3
      cases h5 : isK (s3) 5
      · rw [h5] at hm5
        have HE := hide (show rType (f + 1) s = ((⟨#[91]⟩ ++ y ++ ⟨#[93]⟩), s3) from by rw [HE0.out]; simp only [if_true]; rw [if_neg (by rw [h5]; decide)])
        clear h5
        go_wp2_with fail
        refine hm5.mono ?_
        clear hm5
        rintro e w9 ⟨rfl, hr9, hk9⟩
        go_wp2_with fail
        go_ret
        exact ⟨by rw [HE.out]; rfl, by rw [HE.out]; exact hr9, hk4.trans hk9, by rw [HE.out]; simp only [ByteArray.size_append]; have : (⟨#[91]⟩ : ByteArray).size = 1 := rfl; have : (⟨#[93]⟩ : ByteArray).size = 1 := rfl; omega⟩
      · rw [h5] at hm5
        have HE := hide (show rType (f + 1) s = ((⟨#[91]⟩ ++ y ++ ⟨#[93]⟩) ++ ⟨#[33]⟩, tl (s3)) from by rw [HE0.out]; simp only [if_true]; rw [if_pos h5])
        clear h5
        go_wp2_with fail
        refine hm5.mono ?_
        clear hm5
        rintro e w9 ⟨rfl, hr9, hk9⟩
        go_wp2_with fail
        go_ret
        exact ⟨by rw [HE.out]; rfl, by rw [HE.out]; exact hr9, hk4.trans hk9, by rw [HE.out]; simp only [ByteArray.size_append]; have : (⟨#[91]⟩ : ByteArray).size = 1 := rfl; have : (⟨#[93]⟩ : ByteArray).size = 1 := rfl; have : (⟨#[33]⟩ : ByteArray).size = 1 := rfl; omega⟩
end Go.Proofs.YtpggfgjongkihaaGreat
