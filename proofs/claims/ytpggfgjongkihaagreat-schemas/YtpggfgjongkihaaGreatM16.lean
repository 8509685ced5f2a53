/- The program's reader: Take, TakeWord, Need, NeedName, NeedWord, Read. -/
import Derived.Test.YtpggfgjongkihaaGreatM15
import Derived.Test.YtpggfgjongkihaaGreatM06
namespace Go.Proofs.YtpggfgjongkihaaGreat
open Go.RowKit
set_option maxHeartbeats 400000 in
theorem take_any (w : World) (b G : Nat) (s : St) (K : Nat) (h : PS w b G s) :
    Calls Tryz.prog 127 #[.pointer (some ⟨b, 0, none⟩), .int .i64 K] w fun e w' => e = .returned (.bool (isK s K)) ∧ PS w' b G (mayT s (isK s K)) ∧ Keep b w w' := by
  have hc := sees_any w b G s K h
  cases hx : isK s K
  · rw [hx] at hc
    go_enter Tryz.func127, Tryz.ntmps127
    go_wp2_with fail
    refine hc.mono ?_
    clear hc
    rintro e w1 ⟨rfl, hb1⟩
    go_wp2_with fail
    go_ret
    exact ⟨rfl, h.below hb1, Keep.of_below hb1⟩
  · rw [hx] at hc
    go_enter Tryz.func127, Tryz.ntmps127
    go_wp2_with fail
    refine hc.mono ?_
    clear hc
    rintro e w1 ⟨rfl, hb1⟩
    have hn := nextP_any w1 b G s (h.below hb1)
    go_wp2_with fail
    refine hn.mono ?_
    clear hn
    rintro e w2 ⟨rfl, hp, hk⟩
    go_wp2_with fail
    go_ret
    exact ⟨rfl, hp, (Keep.of_below hb1).trans hk⟩
set_option maxHeartbeats 400000 in
theorem takeW_any (w : World) (b G : Nat) (s : St) (x : ByteArray) (h : PS w b G s) :
    Calls Tryz.prog 132 #[.pointer (some ⟨b, 0, none⟩), .string x] w fun e w' => e = .returned (.bool (isW s x)) ∧ PS w' b G (mayT s (isW s x)) ∧ Keep b w w' := by
  have hc := seesWord_any w b G s x h
  cases hx : isW s x
  · rw [hx] at hc
    go_enter Tryz.func132, Tryz.ntmps132
    go_wp2_with fail
    refine hc.mono ?_
    clear hc
    rintro e w1 ⟨rfl, hb1⟩
    go_wp2_with fail
    go_ret
    exact ⟨rfl, h.below hb1, Keep.of_below hb1⟩
  · rw [hx] at hc
    go_enter Tryz.func132, Tryz.ntmps132
    go_wp2_with fail
    refine hc.mono ?_
    clear hc
    rintro e w1 ⟨rfl, hb1⟩
    have hn := nextP_any w1 b G s (h.below hb1)
    go_wp2_with fail
    refine hn.mono ?_
    clear hn
    rintro e w2 ⟨rfl, hp, hk⟩
    go_wp2_with fail
    go_ret
    exact ⟨rfl, hp, (Keep.of_below hb1).trans hk⟩
set_option maxHeartbeats 400000 in
theorem needW_any (w : World) (b G : Nat) (s : St) (x : ByteArray) (h : PS w b G s) :
    Calls Tryz.prog 133 #[.pointer (some ⟨b, 0, none⟩), .string x] w fun e w' => e = .returned (.tuple #[]) ∧ PS w' b G (mustT s (isW s x)) ∧ Keep b w w' := by
  have hc := takeW_any w b G s x h
  cases hx : isW s x
  · rw [hx] at hc
    go_enter Tryz.func133, Tryz.ntmps133
    go_wp2_with fail
    refine hc.mono ?_
    clear hc
    rintro e w1 ⟨rfl, hp1, hk1⟩
    have hn := fail_any w1 b G s hp1
    go_wp2_with fail
    refine hn.mono ?_
    clear hn
    rintro e w2 ⟨rfl, hp, hk⟩
    go_wp2_with fail
    go_end0
    exact ⟨rfl, hp, hk1.trans hk⟩
  · rw [hx] at hc
    go_enter Tryz.func133, Tryz.ntmps133
    go_wp2_with fail
    refine hc.mono ?_
    clear hc
    rintro e w1 ⟨rfl, hp1, hk1⟩
    go_wp2_with fail
    go_end0
    exact ⟨rfl, hp1, hk1⟩
def needV (s : St) (K : Nat) : Tk := if isK s K = true then hd s else zTk
theorem nm_need (s : St) : nm s = (needV s 1).s := by unfold nm needV; split <;> rfl
theorem nmT_must (s : St) : nmT s = mustT s (isK s 1) := rfl
theorem set3_PS {w : World} {b G N : Nat} {s : St} (h : PS w b G s) (h1 : b ≠ N) (h2 : G ≠ N) (x y z : Value) : PS (((w.setCell ⟨N, 0, none⟩ x).setCell ⟨N, 1, none⟩ y).setCell ⟨N, 2, none⟩ z) b G s :=
  ((h.set h1 h2 _ _).set h1 h2 _ _).set h1 h2 _ _
set_option maxHeartbeats 1000000 in
theorem need_any (w : World) (b G : Nat) (s : St) (K : Nat) (h : PS w b G s) :
    Calls Tryz.prog 125 #[.pointer (some ⟨b, 0, none⟩), .int .i64 K] w fun e w' => e = .returned (.agg #[.int .i64 (needV s K).k, .string (needV s K).s, .int .i64 (needV s K).n]) ∧ PS w' b G (mustT s (isK s K)) ∧ Keep b w w' := by
  have hlt := h.lt
  have hgl := h.glt
  have h' : PS (w.alloc (.cells #[.int .i64 0, .string ⟨#[]⟩, .int .i64 0] 223)) b G s := h.alloc _
  have hc := sees_any _ b G s K h'
  have hka : Keep b w (w.alloc (.cells #[.int .i64 0, .string ⟨#[]⟩, .int .i64 0] 223)) := (Keep.refl b w).alloc _
  have hN : (w.alloc (.cells #[.int .i64 0, .string ⟨#[]⟩, .int .i64 0] 223)).heap[w.heap.size]? = some (.cells #[.int .i64 0, .string ⟨#[]⟩, .int .i64 0] 223 (0, 0)) := heap_alloc_new w _
  cases hx : isK s K
  · rw [hx] at hc
    have e0 : needV s K = zTk := by unfold needV; rw [hx]; rfl
    rw [e0]
    show Calls _ _ _ _ fun e w' => e = .returned (.agg #[.int .i64 0, .string ⟨#[]⟩, .int .i64 0]) ∧ PS w' b G none ∧ Keep b w w'
    go_enter Tryz.func125, Tryz.ntmps125
    go_wp2_with fail
    refine hc.mono ?_
    clear hc
    rintro e w1 ⟨rfl, hb1⟩
    have hn := fail_any w1 b G s (h'.below hb1)
    have hN1 := (hb1.block w.heap.size (by simp)).trans hN
    have hk1 : Keep b w w1 := hka.trans (Keep.of_below hb1)
    go_wp2_with fail
    refine hn.mono ?_
    clear hn
    rintro e w2 ⟨rfl, hp, hk⟩
    have hN2 := hk.at hN1 (by omega)
    have hs2 : w.heap.size < w2.heap.size := lt_of_block hN2
    have hc0 : w2.cell? ⟨w.heap.size, 0, none⟩ = some (.int .i64 0) := cell_of_block hN2 0
    have hc1 : w2.cell? ⟨w.heap.size, 1, none⟩ = some (.string ⟨#[]⟩) := cell_of_block hN2 1
    have hc2 : w2.cell? ⟨w.heap.size, 2, none⟩ = some (.int .i64 0) := cell_of_block hN2 2
    have hf : ∀ j, w2.frozen? ⟨w.heap.size, j, none⟩ = false := fun j => frozen_of_block hN2 j
    have HP := hide hp
    have HK := hide (hk1.trans hk)
    clear hp hk hk1 hka hN hN1 h h' hb1 hN2
    go_wp2_with fail
    refine bodyPost_ret (v := .agg #[.int .i64 0, .string ⟨#[]⟩, .int .i64 0]) (by simp [results, Tryz.results125, go_sem, hc0, hc1, hc2]) rfl ⟨rfl, ?_, ?_⟩
    · exact set3_PS HP.out (by omega) (by omega) _ _ _
    · exact ((HK.out.setNew _ (Nat.le_refl _) _).setNew _ (Nat.le_refl _) _).setNew _ (Nat.le_refl _) _
  · rw [hx] at hc
    have e0 : needV s K = hd s := by unfold needV; rw [hx]; rfl
    rw [e0]
    show Calls _ _ _ _ fun e w' => e = .returned (.agg #[.int .i64 (hd s).k, .string (hd s).s, .int .i64 (hd s).n]) ∧ PS w' b G (tl s) ∧ Keep b w w'
    have hn0 := fun w1 h => nextP_any w1 b G s h
    generalize (hd s).k = k1 at *
    generalize (hd s).s = y1 at *
    generalize (hd s).n = n1 at *
    go_enter Tryz.func125, Tryz.ntmps125
    go_wp2_with fail
    refine hc.mono ?_
    clear hc
    rintro e w1 ⟨rfl, hb1⟩
    have hn := hn0 w1 (h'.below hb1)
    have hN1 := (hb1.block w.heap.size (by simp)).trans hN
    have hk1 : Keep b w w1 := hka.trans (Keep.of_below hb1)
    clear hn0
    go_wp2_with fail
    refine hn.mono ?_
    clear hn
    rintro e w2 ⟨rfl, hp, hk⟩
    have hN2 := hk.at hN1 (by omega)
    have hs2 : w.heap.size < w2.heap.size := lt_of_block hN2
    have hc0 : w2.cell? ⟨w.heap.size, 0, none⟩ = some (.int .i64 0) := cell_of_block hN2 0
    have hc1 : w2.cell? ⟨w.heap.size, 1, none⟩ = some (.string ⟨#[]⟩) := cell_of_block hN2 1
    have hc2 : w2.cell? ⟨w.heap.size, 2, none⟩ = some (.int .i64 0) := cell_of_block hN2 2
    have hf : ∀ j, w2.frozen? ⟨w.heap.size, j, none⟩ = false := fun j => frozen_of_block hN2 j
    have HP := hide hp
    have HK := hide (hk1.trans hk)
    clear hp hk hk1 hka hN hN1 h h' hb1 hN2
    go_wp2_with fail
    refine bodyPost_ret (v := .agg #[.int .i64 k1, .string y1, .int .i64 n1]) (by simp [results, Tryz.results125, go_sem, hc0, hc1, hc2]) rfl ⟨rfl, ?_, ?_⟩
    · exact set3_PS HP.out (by omega) (by omega) _ _ _
    · exact ((HK.out.setNew _ (Nat.le_refl _) _).setNew _ (Nat.le_refl _) _).setNew _ (Nat.le_refl _) _
set_option maxHeartbeats 400000 in
theorem needName_any (w : World) (b G : Nat) (s : St) (h : PS w b G s) :
    Calls Tryz.prog 93 #[.pointer (some ⟨b, 0, none⟩)] w fun e w' => e = .returned (.string (nm s)) ∧ PS w' b G (nmT s) ∧ Keep b w w' := by
  have hfld := run_field1
  have hc := need_any w b G s 1 h
  rw [nm_need, nmT_must]
  generalize (needV s 1).k = k1 at *
  generalize (needV s 1).s = y1 at *
  generalize (needV s 1).n = n1 at *
  go_enter Tryz.func93, Tryz.ntmps93
  go_wp2_with fail
  refine hc.mono ?_
  clear hc
  rintro e w1 ⟨rfl, hp, hk⟩
  go_wp2_with fail
  go_ret
  exact ⟨rfl, hp, hk⟩
set_option maxHeartbeats 400000 in
theorem read_any (x : ByteArray) (w : World) (hs : x.size ≤ maxLen) :
    Calls Tryz.prog 52 #[.string x] w fun e w' => ∃ b G, e = .returned (.pointer (some ⟨b, 0, none⟩)) ∧ w.heap.size ≤ b ∧ PS w' b G (cutS x) ∧ Below w.heap.size w w' := by
  have hc := prgCut_any x w hs
  go_enter Tryz.func52, Tryz.ntmps52
  go_wp2_with fail
  refine hc.mono ?_
  clear hc
  rintro e w1 ⟨v, q, ts, rfl, hb1, hrow, hcut, hz⟩
  obtain ⟨aV, capV, rfl⟩ : ∃ a c, v = .slice a ts.length c := by
    rcases hrow.2 with ⟨hv, hn⟩ | ⟨g, cap, cur, hv, _⟩
    · exact ⟨none, 0, by rw [hv, hn]⟩
    · exact ⟨_, _, hv⟩
  have HROW := hide hrow
  have HZ := hide hz
  have HCUT := hide hcut
  clear hrow hz hcut
  go_wp2_with fail
  go_ret
  have hrow := HROW.out
  have hz := HZ.out
  have hcut := HCUT.out
  have hnew := heap_alloc_new w1 (.cells #[.slice aV ts.length capV, .bool (!q)] 193 (0, 0))
  have hwf : (∀ t ∈ (cutS x).getD [], okT t) ∧ ln (cutS x) ≤ 801 := by
    cases hq : cutS x with
    | none => exact ⟨fun t ht => by simp at ht, by simp [ln]⟩
    | some l => obtain ⟨a, b⟩ := cutS_ok x l hq; exact ⟨by simpa using a, by simp [ln]; omega⟩
  have e1 : (cutS x).isNone = !q := by rw [hcut]; cases q <;> rfl
  have e2 : (cutS x).getD [] = ts := by
    rw [hcut]
    cases q
    · exact ((hz rfl).1).symm
    · rfl
  have e3 : cutS x = none → Value.slice aV ts.length capV = .slice none 0 0 := by
    intro h; rw [h] at hcut
    cases q
    · exact (hz rfl).2
    · cases hcut
  rcases hrow.2 with ⟨hv, hn⟩ | ⟨g, cap, cur, hv, hg, hh, hcap, _, _, htk⟩
  · exact ⟨w1.heap.size, w1.heap.size, rfl, hb1.size, ⟨⟨_, by rw [e1]; exact hnew, by rw [e2]; exact Or.inl ⟨List.eq_nil_of_length_eq_zero hn, _, _, hv⟩, e3⟩, hwf.2, hwf.1, by simp⟩, hb1.alloc hb1.size _⟩
  · exact ⟨w1.heap.size, g, rfl, hb1.size, ⟨⟨_, by rw [e1]; exact hnew, by rw [e2]; exact Or.inr ⟨0, cap, cur, hv, hcap, by rw [alloc_other _ _ _ (lt_of_block hh)]; exact hh, by simpa using htk⟩, e3⟩, hwf.2, hwf.1, by have := lt_of_block hh; simp; omega⟩, hb1.alloc hb1.size _⟩
end Go.Proofs.YtpggfgjongkihaaGreat
