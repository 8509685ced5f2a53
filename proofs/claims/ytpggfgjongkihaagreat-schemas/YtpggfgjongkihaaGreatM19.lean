/- The program's parser: readArgument. The program's parser: readField. The program's parser: readFields. The program's parser: values of rules. -/
import Derived.Test.YtpggfgjongkihaaGreatM18
import Derived.Deep.RegionWith
import Derived.Deep.LoopGhost
namespace Go.Proofs.YtpggfgjongkihaaGreat
open Go.RowKit
def pScalar (n : ByteArray) : ByteArray := if n = bId then ⟨#[73, 68]⟩ else if n = bFirst then ⟨#[73, 110, 116]⟩ else ⟨#[]⟩
def pArgS (s : St) : St := if nm s = bId then nmT s else if nm s = bFirst then nmT s else none
def pArg (s : St) : (ByteArray × ByteArray) × St :=
  ((nm s, pScalar (nm s)), mustT (mustT (pArgS s) (isK (pArgS s) 9)) (isW (mustT (pArgS s) (isK (pArgS s) 9)) (pScalar (nm s))))
set_option maxHeartbeats 1000000 in
set_option maxRecDepth 100000 in
theorem readArgument_any (w : World) (p b S G : Nat) (s : St) (hP : PP w p b S) (h : PS w b G s) :
    Calls Tryz.prog 196 #[.pointer (some ⟨p, 0, none⟩)] w fun e w' => e = .returned (.agg #[.string (pArg s).1.1, .string (pArg s).1.2]) ∧ PS w' b G (pArg s).2 ∧ Keep b w w' := by
  have hlt := h.lt
  have hgl := h.glt
  have hpl := hP.lt
  have H0 := hide h
  have HP0 := hide hP
  have HK0 := hide (Keep.refl b w)
  have c0 := hP.c0
  clear h hP
  have H1 := hide (H0.out.alloc (.cells #[.string ⟨#[]⟩, .string ⟨#[]⟩] 177))
  have HP1 := hide (HP0.out.alloc (.cells #[.string ⟨#[]⟩, .string ⟨#[]⟩] 177))
  have HK1 := hide (HK0.out.alloc (.cells #[.string ⟨#[]⟩, .string ⟨#[]⟩] 177))
  have HN1R := hide (show (w.alloc (.cells #[.string ⟨#[]⟩, .string ⟨#[]⟩] 177)).heap[w.heap.size]? = some (.cells #[.string ⟨#[]⟩, .string ⟨#[]⟩] 177 (0, 0)) from heap_alloc_new _ _)
  clear H0 HP0 HK0
  have c1 := HP1.out.c0
  have hc := readNamed_any (w.alloc (.cells #[.string ⟨#[]⟩, .string ⟨#[]⟩] 177)) p b S G s HP1.out H1.out
  have L1 := beq_lit (nm s) [105, 100]
  have L2 := beq_lit (nm s) [102, 105, 114, 115, 116]
  by_cases e1 : nm s = bId
  · skip
    rw [show pArg s = ((nm s, ⟨#[73, 68]⟩), mustT (mustT (nmT s) (isK (nmT s) 9)) (isW (mustT (nmT s) (isK (nmT s) 9)) ⟨#[73, 68]⟩)) from by simp only [pArg, pScalar, pArgS, if_pos e1]]
    rw [decide_eq_true (show nm s = ofB [105, 100] from e1)] at L1
    clear L2 e1
    generalize nm s = n at *
    go_enter Tryz.func196, Tryz.ntmps196
    go_wp2_with fail
    refine hc.mono ?_
    clear hc
    rintro e w2 ⟨rfl, h2, k2⟩
    have HP2 := hide (HP1.out.keep H1.out k2)
    have HK2 := hide (HK1.out.trans k2)
    have HN2R := hide (k2.at HN1R.out (by omega))
    have z2R := lt_of_block HN2R.out
    have H2 := hide h2
    have c2 := HP2.out.c0
    have zw2 := HK2.out.size
    have zp2 := HP2.out.lt
    have zb2 := H2.out.lt
    clear H1 HP1 HK1 HN1R h2 k2
    have H3 := hide (H2.out.alloc (.cells #[.string n, .string ⟨#[73, 68]⟩] 177))
    have HP3 := hide (HP2.out.alloc (.cells #[.string n, .string ⟨#[73, 68]⟩] 177))
    have HK3 := hide (HK2.out.alloc (.cells #[.string n, .string ⟨#[73, 68]⟩] 177))
    have HN3R := hide (show (w2.alloc (.cells #[.string n, .string ⟨#[73, 68]⟩] 177)).heap[w.heap.size]? = some (.cells #[.string ⟨#[]⟩, .string ⟨#[]⟩] 177 (0, 0)) from by rw [alloc_other _ _ _ (lt_of_block HN2R.out)]; exact HN2R.out)
    have HN3A := hide (show (w2.alloc (.cells #[.string n, .string ⟨#[73, 68]⟩] 177)).heap[w2.heap.size]? = some (.cells #[.string n, .string ⟨#[73, 68]⟩] 177 (0, 0)) from heap_alloc_new _ _)
    clear H2 HP2 HK2 HN2R
    have c3 := HP3.out.c0
    have hn := need_any (w2.alloc (.cells #[.string n, .string ⟨#[73, 68]⟩] 177)) b G (nmT s) 9 H3.out
    go_wp2_with fail
    refine hn.mono ?_
    clear hn
    rintro e w4 ⟨rfl, h4, k4⟩
    have HP4 := hide (HP3.out.keep H3.out k4)
    have HK4 := hide (HK3.out.trans k4)
    have HN4R := hide (k4.at HN3R.out (by omega))
    have z4R := lt_of_block HN4R.out
    have HN4A := hide (k4.at HN3A.out (by omega))
    have z4A := lt_of_block HN4A.out
    have H4 := hide h4
    have c4 := HP4.out.c0
    have zw4 := HK4.out.size
    have zp4 := HP4.out.lt
    have zb4 := H4.out.lt
    clear H3 HP3 HK3 HN3R HN3A h4 k4
    have d5 : w4.cell? ⟨w2.heap.size, 0, none⟩ = some (.string n) := cell_of_block HN4A.out 0
    have d6 : w4.cell? ⟨w2.heap.size, 1, none⟩ = some (.string ⟨#[73, 68]⟩) := cell_of_block HN4A.out 1
    have hr8 := hide (fun (W : World) (hW : Below w4.heap.size w4 W) => Calls.mono (R' := (fun e w' => e = .returned (.tuple #[]) ∧ PS w' b G (mustT (mustT (nmT s) (isK (nmT s) 9)) (isW (mustT (nmT s) (isK (nmT s) 9)) ⟨#[73, 68]⟩)) ∧ Keep b w4 w')) (needW_any W b G (mustT (nmT s) (isK (nmT s) 9)) ⟨#[73, 68]⟩ (H4.out.below hW)) (by rintro e w' ⟨a, c, d⟩; exact ⟨a, c, (Keep.of_below hW).trans d⟩))
    go_upto_region 9 with fail
    go_region_with (go_at_call 133; refine (hr8.out _ ?_).mono ?_; (first | exact (Below.refl _ _).drew | exact Below.refl _ _); rintro e w7 ⟨rfl, h7, k7⟩)
    all_goals (
      clear hr8
      have HP7 := hide (HP4.out.keep H4.out k7)
      have HK7 := hide (HK4.out.trans k7)
      have HN7R := hide (k7.at HN4R.out (by omega))
      have z7R := lt_of_block HN7R.out
      have HN7A := hide (k7.at HN4A.out (by omega))
      have z7A := lt_of_block HN7A.out
      have H7 := hide h7
      have c7 := HP7.out.c0
      have zw7 := HK7.out.size
      have zp7 := HP7.out.lt
      have zb7 := H7.out.lt
      clear H4 HP4 HK4 HN4R HN4A h7 k7
      have d9 : w7.cell? ⟨w2.heap.size, 0, none⟩ = some (.string n) := cell_of_block HN7A.out 0
      have d10 : w7.cell? ⟨w2.heap.size, 1, none⟩ = some (.string ⟨#[73, 68]⟩) := cell_of_block HN7A.out 1
      have d11 : w7.cell? ⟨w.heap.size, 0, none⟩ = some (.string ⟨#[]⟩) := cell_of_block HN7R.out 0
      have d12 : w7.cell? ⟨w.heap.size, 1, none⟩ = some (.string ⟨#[]⟩) := cell_of_block HN7R.out 1
      have f13 := frozen_of_block HN7R.out 0
      have f14 := frozen_of_block HN7R.out 1
      have H15 := hide (H7.out.set (F := w.heap.size) (by omega) (by omega) 0 (.string n))
      have HP15 := hide (HP7.out.set HN7R.out (by decide) 0 (.string n))
      have HK15 := hide (HK7.out.setNew ⟨w.heap.size, 0, none⟩ (by (try simp only []); omega) (.string n))
      have HN15R := hide (show (w7.setCell ⟨w.heap.size, 0, none⟩ (.string n)).heap[w.heap.size]? = some (.cells #[.string n, .string ⟨#[]⟩] 177 (0, 0)) from setCell_block HN7R.out 0 (.string n))
      have HN15A := hide (set_other_at HN7A.out (show w2.heap.size ≠ w.heap.size by omega) 0 (.string n))
      clear H7 HP7 HK7 HN7R HN7A
      have H16 := hide (H15.out.set (F := w.heap.size) (by omega) (by omega) 1 (.string ⟨#[73, 68]⟩))
      have HP16 := hide (HP15.out.set HN15R.out (by decide) 1 (.string ⟨#[73, 68]⟩))
      have HK16 := hide (HK15.out.setNew ⟨w.heap.size, 1, none⟩ (by (try simp only []); omega) (.string ⟨#[73, 68]⟩))
      have HN16R := hide (show ((w7.setCell ⟨w.heap.size, 0, none⟩ (.string n)).setCell ⟨w.heap.size, 1, none⟩ (.string ⟨#[73, 68]⟩)).heap[w.heap.size]? = some (.cells #[.string n, .string ⟨#[73, 68]⟩] 177 (0, 0)) from setCell_block HN15R.out 1 (.string ⟨#[73, 68]⟩))
      have HN16A := hide (set_other_at HN15A.out (show w2.heap.size ≠ w.heap.size by omega) 1 (.string ⟨#[73, 68]⟩))
      clear H15 HP15 HK15 HN15R HN15A
      go_wp2_with fail
      exact bodyPost_ret (v := .agg #[.string n, .string ⟨#[73, 68]⟩]) (by simp [results, Tryz.results196, go_sem, *]) rfl ⟨rfl, H16.out, HK16.out⟩)
  by_cases e2 : nm s = bFirst
  · skip
    rw [show pArg s = ((nm s, ⟨#[73, 110, 116]⟩), mustT (mustT (nmT s) (isK (nmT s) 9)) (isW (mustT (nmT s) (isK (nmT s) 9)) ⟨#[73, 110, 116]⟩)) from by simp only [pArg, pScalar, pArgS, if_neg e1, if_pos e2]]
    rw [decide_eq_false (show ¬ nm s = ofB [105, 100] from e1)] at L1
    rw [decide_eq_true (show nm s = ofB [102, 105, 114, 115, 116] from e2)] at L2
    clear e1 e2
    generalize nm s = n at *
    go_enter Tryz.func196, Tryz.ntmps196
    go_wp2_with fail
    refine hc.mono ?_
    clear hc
    rintro e w2 ⟨rfl, h2, k2⟩
    have HP2 := hide (HP1.out.keep H1.out k2)
    have HK2 := hide (HK1.out.trans k2)
    have HN2R := hide (k2.at HN1R.out (by omega))
    have z2R := lt_of_block HN2R.out
    have H2 := hide h2
    have c2 := HP2.out.c0
    have zw2 := HK2.out.size
    have zp2 := HP2.out.lt
    have zb2 := H2.out.lt
    clear H1 HP1 HK1 HN1R h2 k2
    have H3 := hide (H2.out.alloc (.cells #[.string n, .string ⟨#[73, 110, 116]⟩] 177))
    have HP3 := hide (HP2.out.alloc (.cells #[.string n, .string ⟨#[73, 110, 116]⟩] 177))
    have HK3 := hide (HK2.out.alloc (.cells #[.string n, .string ⟨#[73, 110, 116]⟩] 177))
    have HN3R := hide (show (w2.alloc (.cells #[.string n, .string ⟨#[73, 110, 116]⟩] 177)).heap[w.heap.size]? = some (.cells #[.string ⟨#[]⟩, .string ⟨#[]⟩] 177 (0, 0)) from by rw [alloc_other _ _ _ (lt_of_block HN2R.out)]; exact HN2R.out)
    have HN3A := hide (show (w2.alloc (.cells #[.string n, .string ⟨#[73, 110, 116]⟩] 177)).heap[w2.heap.size]? = some (.cells #[.string n, .string ⟨#[73, 110, 116]⟩] 177 (0, 0)) from heap_alloc_new _ _)
    clear H2 HP2 HK2 HN2R
    have c3 := HP3.out.c0
    have hn := need_any (w2.alloc (.cells #[.string n, .string ⟨#[73, 110, 116]⟩] 177)) b G (nmT s) 9 H3.out
    go_wp2_with fail
    refine hn.mono ?_
    clear hn
    rintro e w4 ⟨rfl, h4, k4⟩
    have HP4 := hide (HP3.out.keep H3.out k4)
    have HK4 := hide (HK3.out.trans k4)
    have HN4R := hide (k4.at HN3R.out (by omega))
    have z4R := lt_of_block HN4R.out
    have HN4A := hide (k4.at HN3A.out (by omega))
    have z4A := lt_of_block HN4A.out
    have H4 := hide h4
    have c4 := HP4.out.c0
    have zw4 := HK4.out.size
    have zp4 := HP4.out.lt
    have zb4 := H4.out.lt
    clear H3 HP3 HK3 HN3R HN3A h4 k4
    have d5 : w4.cell? ⟨w2.heap.size, 0, none⟩ = some (.string n) := cell_of_block HN4A.out 0
    have d6 : w4.cell? ⟨w2.heap.size, 1, none⟩ = some (.string ⟨#[73, 110, 116]⟩) := cell_of_block HN4A.out 1
    have hr8 := hide (fun (W : World) (hW : Below w4.heap.size w4 W) => Calls.mono (R' := (fun e w' => e = .returned (.tuple #[]) ∧ PS w' b G (mustT (mustT (nmT s) (isK (nmT s) 9)) (isW (mustT (nmT s) (isK (nmT s) 9)) ⟨#[73, 110, 116]⟩)) ∧ Keep b w4 w')) (needW_any W b G (mustT (nmT s) (isK (nmT s) 9)) ⟨#[73, 110, 116]⟩ (H4.out.below hW)) (by rintro e w' ⟨a, c, d⟩; exact ⟨a, c, (Keep.of_below hW).trans d⟩))
    go_upto_region 9 with fail
    go_region_with (go_at_call 133; refine (hr8.out _ ?_).mono ?_; (first | exact (Below.refl _ _).drew | exact Below.refl _ _); rintro e w7 ⟨rfl, h7, k7⟩)
    all_goals (
      clear hr8
      have HP7 := hide (HP4.out.keep H4.out k7)
      have HK7 := hide (HK4.out.trans k7)
      have HN7R := hide (k7.at HN4R.out (by omega))
      have z7R := lt_of_block HN7R.out
      have HN7A := hide (k7.at HN4A.out (by omega))
      have z7A := lt_of_block HN7A.out
      have H7 := hide h7
      have c7 := HP7.out.c0
      have zw7 := HK7.out.size
      have zp7 := HP7.out.lt
      have zb7 := H7.out.lt
      clear H4 HP4 HK4 HN4R HN4A h7 k7
      have d9 : w7.cell? ⟨w2.heap.size, 0, none⟩ = some (.string n) := cell_of_block HN7A.out 0
      have d10 : w7.cell? ⟨w2.heap.size, 1, none⟩ = some (.string ⟨#[73, 110, 116]⟩) := cell_of_block HN7A.out 1
      have d11 : w7.cell? ⟨w.heap.size, 0, none⟩ = some (.string ⟨#[]⟩) := cell_of_block HN7R.out 0
      have d12 : w7.cell? ⟨w.heap.size, 1, none⟩ = some (.string ⟨#[]⟩) := cell_of_block HN7R.out 1
      have f13 := frozen_of_block HN7R.out 0
      have f14 := frozen_of_block HN7R.out 1
      have H15 := hide (H7.out.set (F := w.heap.size) (by omega) (by omega) 0 (.string n))
      have HP15 := hide (HP7.out.set HN7R.out (by decide) 0 (.string n))
      have HK15 := hide (HK7.out.setNew ⟨w.heap.size, 0, none⟩ (by (try simp only []); omega) (.string n))
      have HN15R := hide (show (w7.setCell ⟨w.heap.size, 0, none⟩ (.string n)).heap[w.heap.size]? = some (.cells #[.string n, .string ⟨#[]⟩] 177 (0, 0)) from setCell_block HN7R.out 0 (.string n))
      have HN15A := hide (set_other_at HN7A.out (show w2.heap.size ≠ w.heap.size by omega) 0 (.string n))
      clear H7 HP7 HK7 HN7R HN7A
      have H16 := hide (H15.out.set (F := w.heap.size) (by omega) (by omega) 1 (.string ⟨#[73, 110, 116]⟩))
      have HP16 := hide (HP15.out.set HN15R.out (by decide) 1 (.string ⟨#[73, 110, 116]⟩))
      have HK16 := hide (HK15.out.setNew ⟨w.heap.size, 1, none⟩ (by (try simp only []); omega) (.string ⟨#[73, 110, 116]⟩))
      have HN16R := hide (show ((w7.setCell ⟨w.heap.size, 0, none⟩ (.string n)).setCell ⟨w.heap.size, 1, none⟩ (.string ⟨#[73, 110, 116]⟩)).heap[w.heap.size]? = some (.cells #[.string n, .string ⟨#[73, 110, 116]⟩] 177 (0, 0)) from setCell_block HN15R.out 1 (.string ⟨#[73, 110, 116]⟩))
      have HN16A := hide (set_other_at HN15A.out (show w2.heap.size ≠ w.heap.size by omega) 1 (.string ⟨#[73, 110, 116]⟩))
      clear H15 HP15 HK15 HN15R HN15A
      go_wp2_with fail
      exact bodyPost_ret (v := .agg #[.string n, .string ⟨#[73, 110, 116]⟩]) (by simp [results, Tryz.results196, go_sem, *]) rfl ⟨rfl, H16.out, HK16.out⟩)
  rw [show pArg s = ((nm s, ⟨#[]⟩), mustT (mustT none (isK none 9)) (isW (mustT none (isK none 9)) ⟨#[]⟩)) from by simp only [pArg, pScalar, pArgS, if_neg e1, if_neg e2]]
  rw [decide_eq_false (show ¬ nm s = ofB [105, 100] from e1)] at L1
  rw [decide_eq_false (show ¬ nm s = ofB [102, 105, 114, 115, 116] from e2)] at L2
  clear e1 e2
  generalize nm s = n at *
  go_enter Tryz.func196, Tryz.ntmps196
  go_wp2_with fail
  refine hc.mono ?_
  clear hc
  rintro e w2 ⟨rfl, h2, k2⟩
  have HP2 := hide (HP1.out.keep H1.out k2)
  have HK2 := hide (HK1.out.trans k2)
  have HN2R := hide (k2.at HN1R.out (by omega))
  have z2R := lt_of_block HN2R.out
  have H2 := hide h2
  have c2 := HP2.out.c0
  have zw2 := HK2.out.size
  have zp2 := HP2.out.lt
  have zb2 := H2.out.lt
  clear H1 HP1 HK1 HN1R h2 k2
  have H3 := hide (H2.out.alloc (.cells #[.string n, .string ⟨#[]⟩] 177))
  have HP3 := hide (HP2.out.alloc (.cells #[.string n, .string ⟨#[]⟩] 177))
  have HK3 := hide (HK2.out.alloc (.cells #[.string n, .string ⟨#[]⟩] 177))
  have HN3R := hide (show (w2.alloc (.cells #[.string n, .string ⟨#[]⟩] 177)).heap[w.heap.size]? = some (.cells #[.string ⟨#[]⟩, .string ⟨#[]⟩] 177 (0, 0)) from by rw [alloc_other _ _ _ (lt_of_block HN2R.out)]; exact HN2R.out)
  have HN3A := hide (show (w2.alloc (.cells #[.string n, .string ⟨#[]⟩] 177)).heap[w2.heap.size]? = some (.cells #[.string n, .string ⟨#[]⟩] 177 (0, 0)) from heap_alloc_new _ _)
  clear H2 HP2 HK2 HN2R
  have c3 := HP3.out.c0
  have hx := fail_any (w2.alloc (.cells #[.string n, .string ⟨#[]⟩] 177)) b G (nmT s) H3.out
  go_wp2_with fail
  refine hx.mono ?_
  clear hx
  rintro e w4 ⟨rfl, h4, k4⟩
  have HP4 := hide (HP3.out.keep H3.out k4)
  have HK4 := hide (HK3.out.trans k4)
  have HN4R := hide (k4.at HN3R.out (by omega))
  have z4R := lt_of_block HN4R.out
  have HN4A := hide (k4.at HN3A.out (by omega))
  have z4A := lt_of_block HN4A.out
  have H4 := hide h4
  have c4 := HP4.out.c0
  have zw4 := HK4.out.size
  have zp4 := HP4.out.lt
  have zb4 := H4.out.lt
  clear H3 HP3 HK3 HN3R HN3A h4 k4
  have hn := need_any w4 b G none 9 H4.out
  go_wp2_with fail
  refine hn.mono ?_
  clear hn
  rintro e w5 ⟨rfl, h5, k5⟩
  have HP5 := hide (HP4.out.keep H4.out k5)
  have HK5 := hide (HK4.out.trans k5)
  have HN5R := hide (k5.at HN4R.out (by omega))
  have z5R := lt_of_block HN5R.out
  have HN5A := hide (k5.at HN4A.out (by omega))
  have z5A := lt_of_block HN5A.out
  have H5 := hide h5
  have c5 := HP5.out.c0
  have zw5 := HK5.out.size
  have zp5 := HP5.out.lt
  have zb5 := H5.out.lt
  clear H4 HP4 HK4 HN4R HN4A h5 k5
  have d6 : w5.cell? ⟨w2.heap.size, 0, none⟩ = some (.string n) := cell_of_block HN5A.out 0
  have d7 : w5.cell? ⟨w2.heap.size, 1, none⟩ = some (.string ⟨#[]⟩) := cell_of_block HN5A.out 1
  have hr9 := hide (fun (W : World) (hW : Below w5.heap.size w5 W) => Calls.mono (R' := (fun e w' => e = .returned (.tuple #[]) ∧ PS w' b G (mustT (mustT none (isK none 9)) (isW (mustT none (isK none 9)) ⟨#[]⟩)) ∧ Keep b w5 w')) (needW_any W b G (mustT none (isK none 9)) ⟨#[]⟩ (H5.out.below hW)) (by rintro e w' ⟨a, c, d⟩; exact ⟨a, c, (Keep.of_below hW).trans d⟩))
  go_upto_region 9 with fail
  go_region_with (go_at_call 133; refine (hr9.out _ ?_).mono ?_; (first | exact (Below.refl _ _).drew | exact Below.refl _ _); rintro e w8 ⟨rfl, h8, k8⟩)
  all_goals (
    clear hr9
    have HP8 := hide (HP5.out.keep H5.out k8)
    have HK8 := hide (HK5.out.trans k8)
    have HN8R := hide (k8.at HN5R.out (by omega))
    have z8R := lt_of_block HN8R.out
    have HN8A := hide (k8.at HN5A.out (by omega))
    have z8A := lt_of_block HN8A.out
    have H8 := hide h8
    have c8 := HP8.out.c0
    have zw8 := HK8.out.size
    have zp8 := HP8.out.lt
    have zb8 := H8.out.lt
    clear H5 HP5 HK5 HN5R HN5A h8 k8
    have d10 : w8.cell? ⟨w2.heap.size, 0, none⟩ = some (.string n) := cell_of_block HN8A.out 0
    have d11 : w8.cell? ⟨w2.heap.size, 1, none⟩ = some (.string ⟨#[]⟩) := cell_of_block HN8A.out 1
    have d12 : w8.cell? ⟨w.heap.size, 0, none⟩ = some (.string ⟨#[]⟩) := cell_of_block HN8R.out 0
    have d13 : w8.cell? ⟨w.heap.size, 1, none⟩ = some (.string ⟨#[]⟩) := cell_of_block HN8R.out 1
    have f14 := frozen_of_block HN8R.out 0
    have f15 := frozen_of_block HN8R.out 1
    have H16 := hide (H8.out.set (F := w.heap.size) (by omega) (by omega) 0 (.string n))
    have HP16 := hide (HP8.out.set HN8R.out (by decide) 0 (.string n))
    have HK16 := hide (HK8.out.setNew ⟨w.heap.size, 0, none⟩ (by (try simp only []); omega) (.string n))
    have HN16R := hide (show (w8.setCell ⟨w.heap.size, 0, none⟩ (.string n)).heap[w.heap.size]? = some (.cells #[.string n, .string ⟨#[]⟩] 177 (0, 0)) from setCell_block HN8R.out 0 (.string n))
    have HN16A := hide (set_other_at HN8A.out (show w2.heap.size ≠ w.heap.size by omega) 0 (.string n))
    clear H8 HP8 HK8 HN8R HN8A
    have H17 := hide (H16.out.set (F := w.heap.size) (by omega) (by omega) 1 (.string ⟨#[]⟩))
    have HP17 := hide (HP16.out.set HN16R.out (by decide) 1 (.string ⟨#[]⟩))
    have HK17 := hide (HK16.out.setNew ⟨w.heap.size, 1, none⟩ (by (try simp only []); omega) (.string ⟨#[]⟩))
    have HN17R := hide (show ((w8.setCell ⟨w.heap.size, 0, none⟩ (.string n)).setCell ⟨w.heap.size, 1, none⟩ (.string ⟨#[]⟩)).heap[w.heap.size]? = some (.cells #[.string n, .string ⟨#[]⟩] 177 (0, 0)) from setCell_block HN16R.out 1 (.string ⟨#[]⟩))
    have HN17A := hide (set_other_at HN16A.out (show w2.heap.size ≠ w.heap.size by omega) 1 (.string ⟨#[]⟩))
    clear H16 HP16 HK16 HN16R HN16A
    go_wp2_with fail
    exact bodyPost_ret (v := .agg #[.string n, .string ⟨#[]⟩]) (by simp [results, Tryz.results196, go_sem, *]) rfl ⟨rfl, H17.out, HK17.out⟩)
end Go.Proofs.YtpggfgjongkihaaGreat
namespace Go.Proofs.YtpggfgjongkihaaGreat
open Go.RowKit
structure PFld where
  name : ByteArray
  auth : ByteArray
  hide_ : ByteArray
  arg : ByteArray
  scalar : ByteArray
  ty : PTy
def pMarks : Nat → St → ByteArray → ByteArray → (ByteArray × ByteArray) × St
  | 0, s, a, h => ((a, h), s)
  | f + 1, s, a, h => if isK s 11 = true then pMarks f (pMark a h (tl s)).2 (pMark a h (tl s)).1.1 (pMark a h (tl s)).1.2 else ((a, h), s)
def pFArg (s : St) : (ByteArray × ByteArray) × St :=
  if isK s 7 = true then ((pArg (tl s)).1, mustT (pArg (tl s)).2 (isK (pArg (tl s)).2 8)) else ((⟨#[]⟩, ⟨#[]⟩), s)
def pTyS (s : St) : St := mustT (pFArg (nmT s)).2 (isK (pFArg (nmT s)).2 9)
def pField (s : St) : PFld × St :=
  (⟨nm s, (pMarks 801 (pType 802 (pTyS s)).2 ⟨#[]⟩ ⟨#[]⟩).1.1, (pMarks 801 (pType 802 (pTyS s)).2 ⟨#[]⟩ ⟨#[]⟩).1.2, (pFArg (nmT s)).1.1, (pFArg (nmT s)).1.2, (pType 802 (pTyS s)).1⟩, (pMarks 801 (pType 802 (pTyS s)).2 ⟨#[]⟩ ⟨#[]⟩).2)
def pfV (f : PFld) (u : Value) : Array Value := #[.string f.name, .string f.auth, .string f.hide_, .string f.arg, .string f.scalar, u]
theorem ln_pMarkRole (r : ByteArray) (s : St) : ln (pMarkRole r s).2 ≤ ln s := by
  unfold pMarkRole
  refine Nat.le_trans (ln_mustT _ _) (Nat.le_trans (ln_nmT _) (Nat.le_trans (ln_mustT _ _) ?_))
  split
  · exact Nat.le_refl _
  · simp [ln]
theorem ln_pMark (a h : ByteArray) (s : St) : ln (pMark a h s).2 ≤ ln s := by
  unfold pMark
  split
  · exact Nat.le_trans (ln_pMarkRole _ _) (ln_nmT _)
  · split
    · exact Nat.le_trans (ln_pMarkRole _ _) (ln_nmT _)
    · simp [ln]
theorem Stay.of_keep2 {T : TypeId} {B : Nat} {w w' : World} {b F : Nat} {cb cF : Array Value} {Tb TF : TypeId} {fb fF : Nat × Nat} (h : Keep2 b F w w') (hb : w.heap[b]? = some (.cells cb Tb fb)) (hF : w.heap[F]? = some (.cells cF TF fF)) (h1 : Tb ≠ T) (h2 : TF ≠ T) : Stay T B w w' := fun k c fr' _ a => by
  rw [h.block k (lt_of_block a) (fun e => by subst e; rw [hb] at a; cases a; exact h1 rfl) (fun e => by subst e; rw [hF] at a; cases a; exact h2 rfl)]; exact a
theorem readType_any (w : World) (p b S G : Nat) (s : St) (hP : PP w p b S) (h : PS w b G s) :
    Calls Tryz.prog 197 #[.pointer (some ⟨p, 0, none⟩)] w fun e w' => ∃ u, e = .returned u ∧ TyAt w' w.heap.size u (pType 802 s).1 ∧ PS w' b G (pType 802 s).2 ∧ Keep b w w' :=
  (readType_f 801 w p b S G s h.len hP h).mono (fun _ _ ⟨_, h1, h2, h3, h4⟩ => ⟨_, h1, h2, h3, h4⟩)
theorem TyAt.ptr {w : World} {B : Nat} {v : Value} {t : PTy} (h : TyAt w B v t) : ∃ k, v = .pointer (some ⟨k, 0, none⟩) := by
  cases t with
  | one n st => obtain ⟨k, h1, _⟩ := h; exact ⟨k, h1⟩
  | list t st => obtain ⟨k, u, h1, _⟩ := h; exact ⟨k, h1⟩
set_option maxHeartbeats 4000000 in
set_option maxRecDepth 100000 in
theorem readField_any (w : World) (p b S G : Nat) (s : St) (hP : PP w p b S) (h : PS w b G s) :
    Calls Tryz.prog 169 #[.pointer (some ⟨p, 0, none⟩)] w fun e w' => ∃ u, e = .returned (.agg (pfV (pField s).1 u)) ∧ TyAt w' w.heap.size u (pField s).1.ty ∧ PS w' b G (pField s).2 ∧ Keep b w w' := by
  have hnc := fun W (hP : PP W p b S) (h : PS W b G s) => readNamed_any W p b S G s hP h
  have HQ := hide (show pField s = (⟨nm s, (pMarks 801 (pType 802 (pTyS s)).2 ⟨#[]⟩ ⟨#[]⟩).1.1, (pMarks 801 (pType 802 (pTyS s)).2 ⟨#[]⟩ ⟨#[]⟩).1.2, (pFArg (nmT s)).1.1, (pFArg (nmT s)).1.2, (pType 802 (pTyS s)).1⟩, (pMarks 801 (pType 802 (pTyS s)).2 ⟨#[]⟩ ⟨#[]⟩).2) from rfl)
  unfold pTyS at HQ
  generalize pField s = FF at *
  generalize nm s = n at *
  generalize nmT s = s1 at *
  have hlt := h.lt
  have hgl := h.glt
  have hpl := hP.lt
  have H0 := hide h
  have HP0 := hide hP
  have HK0 := hide (Keep.refl b w)
  have c0 := hP.c0
  clear h hP
  have H1 := hide (H0.out.alloc (.cells #[.string ⟨#[]⟩, .string ⟨#[]⟩, .string ⟨#[]⟩, .string ⟨#[]⟩, .string ⟨#[]⟩, .pointer none] 180))
  have HP1 := hide (HP0.out.alloc (.cells #[.string ⟨#[]⟩, .string ⟨#[]⟩, .string ⟨#[]⟩, .string ⟨#[]⟩, .string ⟨#[]⟩, .pointer none] 180))
  have HK1 := hide (HK0.out.alloc (.cells #[.string ⟨#[]⟩, .string ⟨#[]⟩, .string ⟨#[]⟩, .string ⟨#[]⟩, .string ⟨#[]⟩, .pointer none] 180))
  have HN1R := hide (show (w.alloc (.cells #[.string ⟨#[]⟩, .string ⟨#[]⟩, .string ⟨#[]⟩, .string ⟨#[]⟩, .string ⟨#[]⟩, .pointer none] 180)).heap[w.heap.size]? = some (.cells #[.string ⟨#[]⟩, .string ⟨#[]⟩, .string ⟨#[]⟩, .string ⟨#[]⟩, .string ⟨#[]⟩, .pointer none] 180 (0, 0)) from heap_alloc_new _ _)
  clear H0 HP0 HK0
  have c1 := HP1.out.c0
  have hc := hnc (w.alloc (.cells #[.string ⟨#[]⟩, .string ⟨#[]⟩, .string ⟨#[]⟩, .string ⟨#[]⟩, .string ⟨#[]⟩, .pointer none] 180)) HP1.out H1.out
  clear hnc
  cases hx : isK s1 7
  · skip
    rw [show pFArg s1 = ((⟨#[]⟩, ⟨#[]⟩), s1) from by rw [pFArg, if_neg (by rw [hx]; simp)]] at HQ
    have ht1 := fun W (h : PS W b G s1) => take_any W b G s1 7 h
    rw [hx] at ht1
    clear hx
    go_enter Tryz.func169, Tryz.ntmps169
    go_wp2_with fail
    refine hc.mono ?_
    clear hc
    rintro e w2 ⟨rfl, h2, k2⟩
    have HP2 := hide (HP1.out.keep H1.out k2)
    have HK2 := hide (HK1.out.trans k2)
    have HN2R := hide (k2.at HN1R.out (by omega))
    have z2R := lt_of_block HN2R.out
    have H2 := hide h2
    have c2 := HP2.out.c0
    have zw2 := HK2.out.size
    have zp2 := HP2.out.lt
    have zb2 := H2.out.lt
    clear H1 HP1 HK1 HN1R h2 k2
    have H3 := hide (H2.out.alloc (.cells #[.string n, .string ⟨#[]⟩, .string ⟨#[]⟩, .string ⟨#[]⟩, .string ⟨#[]⟩, .pointer none] 180))
    have HP3 := hide (HP2.out.alloc (.cells #[.string n, .string ⟨#[]⟩, .string ⟨#[]⟩, .string ⟨#[]⟩, .string ⟨#[]⟩, .pointer none] 180))
    have HK3 := hide (HK2.out.alloc (.cells #[.string n, .string ⟨#[]⟩, .string ⟨#[]⟩, .string ⟨#[]⟩, .string ⟨#[]⟩, .pointer none] 180))
    have HN3R := hide (show (w2.alloc (.cells #[.string n, .string ⟨#[]⟩, .string ⟨#[]⟩, .string ⟨#[]⟩, .string ⟨#[]⟩, .pointer none] 180)).heap[w.heap.size]? = some (.cells #[.string ⟨#[]⟩, .string ⟨#[]⟩, .string ⟨#[]⟩, .string ⟨#[]⟩, .string ⟨#[]⟩, .pointer none] 180 (0, 0)) from by rw [alloc_other _ _ _ (lt_of_block HN2R.out)]; exact HN2R.out)
    have HN3F := hide (show (w2.alloc (.cells #[.string n, .string ⟨#[]⟩, .string ⟨#[]⟩, .string ⟨#[]⟩, .string ⟨#[]⟩, .pointer none] 180)).heap[w2.heap.size]? = some (.cells #[.string n, .string ⟨#[]⟩, .string ⟨#[]⟩, .string ⟨#[]⟩, .string ⟨#[]⟩, .pointer none] 180 (0, 0)) from heap_alloc_new _ _)
    clear H2 HP2 HK2 HN2R
    have c3 := HP3.out.c0
    have ht := ht1 (w2.alloc (.cells #[.string n, .string ⟨#[]⟩, .string ⟨#[]⟩, .string ⟨#[]⟩, .string ⟨#[]⟩, .pointer none] 180)) H3.out
    clear ht1
    go_wp2_with fail
    refine ht.mono ?_
    clear ht
    rintro e w4 ⟨rfl, h4, k4⟩
    have HP4 := hide (HP3.out.keep H3.out k4)
    have HK4 := hide (HK3.out.trans k4)
    have HN4R := hide (k4.at HN3R.out (by omega))
    have z4R := lt_of_block HN4R.out
    have HN4F := hide (k4.at HN3F.out (by omega))
    have z4F := lt_of_block HN4F.out
    have H4 := hide h4
    have c4 := HP4.out.c0
    have zw4 := HK4.out.size
    have zp4 := HP4.out.lt
    have zb4 := H4.out.lt
    clear H3 HP3 HK3 HN3R HN3F h4 k4
    have hn := need_any w4 b G s1 9 H4.out
    go_wp2_with fail
    refine hn.mono ?_
    clear hn
    rintro e w5 ⟨rfl, h5, k5⟩
    have HP5 := hide (HP4.out.keep H4.out k5)
    have HK5 := hide (HK4.out.trans k5)
    have HN5R := hide (k5.at HN4R.out (by omega))
    have z5R := lt_of_block HN5R.out
    have HN5F := hide (k5.at HN4F.out (by omega))
    have z5F := lt_of_block HN5F.out
    have H5 := hide h5
    have c5 := HP5.out.c0
    have zw5 := HK5.out.size
    have zp5 := HP5.out.lt
    have zb5 := H5.out.lt
    clear H4 HP4 HK4 HN4R HN4F h5 k5
    have ht := readType_any w5 p b S G (mustT s1 (isK s1 9)) HP5.out H5.out
    generalize pType 802 (mustT s1 (isK s1 9)) = tt at *
    go_wp2_with fail
    refine ht.mono ?_
    clear ht
    rintro e w6 ⟨u, rfl, t0, h6, k6⟩
    have HP6 := hide (HP5.out.keep H5.out k6)
    have HK6 := hide (HK5.out.trans k6)
    have HN6R := hide (k6.at HN5R.out (by omega))
    have z6R := lt_of_block HN6R.out
    have HN6F := hide (k6.at HN5F.out (by omega))
    have z6F := lt_of_block HN6F.out
    have H6 := hide h6
    have c6 := HP6.out.c0
    have zw6 := HK6.out.size
    have zp6 := HP6.out.lt
    have zb6 := H6.out.lt
    clear H5 HP5 HK5 HN5R HN5F h6 k6
    obtain ⟨ku, hku⟩ := t0.ptr
    subst hku
    have HT := hide t0
    clear t0
    have d7 : w6.cell? ⟨w2.heap.size, 5, none⟩ = some (.pointer none) := cell_of_block HN6F.out 5
    have f8 := frozen_of_block HN6F.out 5
    have H9 := hide (H6.out.set (F := w2.heap.size) (by omega) (by omega) 5 (.pointer (some ⟨ku, 0, none⟩)))
    have HP9 := hide (HP6.out.set HN6F.out (by decide) 5 (.pointer (some ⟨ku, 0, none⟩)))
    have HK9 := hide (HK6.out.setNew ⟨w2.heap.size, 5, none⟩ (by (try simp only []); omega) (.pointer (some ⟨ku, 0, none⟩)))
    have HN9R := hide (set_other_at HN6R.out (show w.heap.size ≠ w2.heap.size by omega) 5 (.pointer (some ⟨ku, 0, none⟩)))
    have HN9F := hide (show (w6.setCell ⟨w2.heap.size, 5, none⟩ (.pointer (some ⟨ku, 0, none⟩))).heap[w2.heap.size]? = some (.cells #[.string n, .string ⟨#[]⟩, .string ⟨#[]⟩, .string ⟨#[]⟩, .string ⟨#[]⟩, .pointer (some ⟨ku, 0, none⟩)] 180 (0, 0)) from setCell_block HN6F.out 5 (.pointer (some ⟨ku, 0, none⟩)))
    have HT9 := hide (HT.out.stays (Stay.set (F := w2.heap.size) (by omega) 5 (.pointer (some ⟨ku, 0, none⟩))))
    clear H6 HP6 HK6 HN6R HN6F HT
    go_wp2_with fail
    have h0 := H9.out
    have hP0 := HP9.out
    have hR0 := HN9R.out
    have hF0 := HN9F.out
    have hK0 := HK9.out
    have hT0 := HT9.out
    have hl0 := h0.len
    clear H9 HP9 HN9R HN9F HK9 HT9
    have HQ2 := hide (show FF = (⟨n, (pMarks 801 tt.2 ⟨#[]⟩ ⟨#[]⟩).1.1, (pMarks 801 tt.2 ⟨#[]⟩ ⟨#[]⟩).1.2, ⟨#[]⟩, ⟨#[]⟩, tt.1⟩, (pMarks 801 tt.2 ⟨#[]⟩ ⟨#[]⟩).2) from HQ.out)
    clear HQ
    generalize tt.2 = s0 at *
    generalize tt.1 = ty at *
    generalize (w6.setCell ⟨w2.heap.size, 5, none⟩ (.pointer (some ⟨ku, 0, none⟩))) = wl at *
    go_loopg [] (ln s0) (fun k wr => ∃ (a h : ByteArray) (s' : St) (f : Nat), ln s' ≤ k ∧ ln s' ≤ f ∧ PS wr b G s' ∧ PP wr p b S ∧ wr.heap[w2.heap.size]? = some (.cells #[.string n, .string a, .string h, .string ⟨#[]⟩, .string ⟨#[]⟩, .pointer (some ⟨ku, 0, none⟩)] 180 (0, 0)) ∧ wr.heap[w.heap.size]? = some (.cells #[.string ⟨#[]⟩, .string ⟨#[]⟩, .string ⟨#[]⟩, .string ⟨#[]⟩, .string ⟨#[]⟩, .pointer none] 180 (0, 0)) ∧ TyAt wr (w5.heap.size) (.pointer (some ⟨ku, 0, none⟩)) ty ∧ Keep b w wr ∧ pMarks 801 s0 ⟨#[]⟩ ⟨#[]⟩ = pMarks f s' a h)
    case atStart => exact ⟨_, _, s0, 801, Nat.le_refl _, hl0, h0, hP0, hF0, hR0, hT0, hK0, rfl⟩
    case round =>
      clear h0 hP0 hF0 hR0 hT0 hK0 hl0
      obtain ⟨a, h, s', f, hlk, hlf, h1, hP1, hF1, hR1, hT1, hK1, hrel⟩ := hrel
      have HM := hide hrel
      have H1 := hide h1
      have HP1 := hide hP1
      have HF1 := hide hF1
      have HR1 := hide hR1
      have HT1 := hide hT1
      have HK1 := hide hK1
      have c1 := hP1.c0
      have zF1 := lt_of_block hF1
      have zR1 := lt_of_block hR1
      have hc := take_any wr b G s' 11 h1
      clear h1 hP1 hF1 hR1 hT1 hK1 hrel
      cases hx : isK s' 11
      · rw [hx] at hc
        have HE := hide (show FF = (⟨n, a, h, ⟨#[]⟩, ⟨#[]⟩, ty⟩, s') from by
          rw [HQ2.out, HM.out]
          cases f with
          | zero => rfl
          | succ f => rw [show pMarks (f + 1) s' a h = ((a, h), s') from by rw [pMarks, if_neg (by rw [hx]; simp)]])
        clear hx HM
        go_wp2_with fail
        refine hc.mono ?_
        clear hc
        rintro e wA ⟨rfl, h2, k2⟩
        have HF2 := hide (k2.at HF1.out (by omega))
        have HR2 := hide (k2.at HR1.out (by omega))
        have zF2 := lt_of_block HF2.out
        have zR2 := lt_of_block HR2.out
        have H2 := hide h2
        have HP2 := hide (HP1.out.keep H1.out k2)
        have HK2 := hide (HK1.out.trans k2)
        have HT2 := hide (HT1.out.stays (H1.out.stay k2))
        clear h2 k2 H1 HP1 HK1 HT1 HF1 HR1
        have d20 : wA.cell? ⟨w2.heap.size, 0, none⟩ = some (.string n) := cell_of_block HF2.out 0
        have d21 : wA.cell? ⟨w2.heap.size, 1, none⟩ = some (.string a) := cell_of_block HF2.out 1
        have d22 : wA.cell? ⟨w2.heap.size, 2, none⟩ = some (.string h) := cell_of_block HF2.out 2
        have d23 : wA.cell? ⟨w2.heap.size, 3, none⟩ = some (.string ⟨#[]⟩) := cell_of_block HF2.out 3
        have d24 : wA.cell? ⟨w2.heap.size, 4, none⟩ = some (.string ⟨#[]⟩) := cell_of_block HF2.out 4
        have d25 : wA.cell? ⟨w2.heap.size, 5, none⟩ = some (.pointer (some ⟨ku, 0, none⟩)) := cell_of_block HF2.out 5
        have d26 : wA.cell? ⟨w.heap.size, 0, none⟩ = some (.string ⟨#[]⟩) := cell_of_block HR2.out 0
        have d27 : wA.cell? ⟨w.heap.size, 1, none⟩ = some (.string ⟨#[]⟩) := cell_of_block HR2.out 1
        have d28 : wA.cell? ⟨w.heap.size, 2, none⟩ = some (.string ⟨#[]⟩) := cell_of_block HR2.out 2
        have d29 : wA.cell? ⟨w.heap.size, 3, none⟩ = some (.string ⟨#[]⟩) := cell_of_block HR2.out 3
        have d30 : wA.cell? ⟨w.heap.size, 4, none⟩ = some (.string ⟨#[]⟩) := cell_of_block HR2.out 4
        have d31 : wA.cell? ⟨w.heap.size, 5, none⟩ = some (.pointer none) := cell_of_block HR2.out 5
        have f32 := frozen_of_block HR2.out 0
        have f33 := frozen_of_block HR2.out 1
        have f34 := frozen_of_block HR2.out 2
        have f35 := frozen_of_block HR2.out 3
        have f36 := frozen_of_block HR2.out 4
        have f37 := frozen_of_block HR2.out 5
        have H38 := hide (H2.out.set (F := w.heap.size) (by omega) (by omega) 0 (.string n))
        have HP38 := hide (HP2.out.set HR2.out (by decide) 0 (.string n))
        have HK38 := hide (HK2.out.setNew ⟨w.heap.size, 0, none⟩ (by (try simp only []); omega) (.string n))
        have HN38F := hide (set_other_at HF2.out (show w2.heap.size ≠ w.heap.size by omega) 0 (.string n))
        have HN38R := hide (show (wA.setCell ⟨w.heap.size, 0, none⟩ (.string n)).heap[w.heap.size]? = some (.cells #[.string n, .string ⟨#[]⟩, .string ⟨#[]⟩, .string ⟨#[]⟩, .string ⟨#[]⟩, .pointer none] 180 (0, 0)) from setCell_block HR2.out 0 (.string n))
        have HT38 := hide (HT2.out.stays (Stay.set (F := w.heap.size) (by omega) 0 (.string n)))
        clear H2 HP2 HK2 HF2 HR2 HT2
        have H39 := hide (H38.out.set (F := w.heap.size) (by omega) (by omega) 1 (.string a))
        have HP39 := hide (HP38.out.set HN38R.out (by decide) 1 (.string a))
        have HK39 := hide (HK38.out.setNew ⟨w.heap.size, 1, none⟩ (by (try simp only []); omega) (.string a))
        have HN39F := hide (set_other_at HN38F.out (show w2.heap.size ≠ w.heap.size by omega) 1 (.string a))
        have HN39R := hide (show ((wA.setCell ⟨w.heap.size, 0, none⟩ (.string n)).setCell ⟨w.heap.size, 1, none⟩ (.string a)).heap[w.heap.size]? = some (.cells #[.string n, .string a, .string ⟨#[]⟩, .string ⟨#[]⟩, .string ⟨#[]⟩, .pointer none] 180 (0, 0)) from setCell_block HN38R.out 1 (.string a))
        have HT39 := hide (HT38.out.stays (Stay.set (F := w.heap.size) (by omega) 1 (.string a)))
        clear H38 HP38 HK38 HN38F HN38R HT38
        have H40 := hide (H39.out.set (F := w.heap.size) (by omega) (by omega) 2 (.string h))
        have HP40 := hide (HP39.out.set HN39R.out (by decide) 2 (.string h))
        have HK40 := hide (HK39.out.setNew ⟨w.heap.size, 2, none⟩ (by (try simp only []); omega) (.string h))
        have HN40F := hide (set_other_at HN39F.out (show w2.heap.size ≠ w.heap.size by omega) 2 (.string h))
        have HN40R := hide (show (((wA.setCell ⟨w.heap.size, 0, none⟩ (.string n)).setCell ⟨w.heap.size, 1, none⟩ (.string a)).setCell ⟨w.heap.size, 2, none⟩ (.string h)).heap[w.heap.size]? = some (.cells #[.string n, .string a, .string h, .string ⟨#[]⟩, .string ⟨#[]⟩, .pointer none] 180 (0, 0)) from setCell_block HN39R.out 2 (.string h))
        have HT40 := hide (HT39.out.stays (Stay.set (F := w.heap.size) (by omega) 2 (.string h)))
        clear H39 HP39 HK39 HN39F HN39R HT39
        have H41 := hide (H40.out.set (F := w.heap.size) (by omega) (by omega) 3 (.string ⟨#[]⟩))
        have HP41 := hide (HP40.out.set HN40R.out (by decide) 3 (.string ⟨#[]⟩))
        have HK41 := hide (HK40.out.setNew ⟨w.heap.size, 3, none⟩ (by (try simp only []); omega) (.string ⟨#[]⟩))
        have HN41F := hide (set_other_at HN40F.out (show w2.heap.size ≠ w.heap.size by omega) 3 (.string ⟨#[]⟩))
        have HN41R := hide (show ((((wA.setCell ⟨w.heap.size, 0, none⟩ (.string n)).setCell ⟨w.heap.size, 1, none⟩ (.string a)).setCell ⟨w.heap.size, 2, none⟩ (.string h)).setCell ⟨w.heap.size, 3, none⟩ (.string ⟨#[]⟩)).heap[w.heap.size]? = some (.cells #[.string n, .string a, .string h, .string ⟨#[]⟩, .string ⟨#[]⟩, .pointer none] 180 (0, 0)) from setCell_block HN40R.out 3 (.string ⟨#[]⟩))
        have HT41 := hide (HT40.out.stays (Stay.set (F := w.heap.size) (by omega) 3 (.string ⟨#[]⟩)))
        clear H40 HP40 HK40 HN40F HN40R HT40
        have H42 := hide (H41.out.set (F := w.heap.size) (by omega) (by omega) 4 (.string ⟨#[]⟩))
        have HP42 := hide (HP41.out.set HN41R.out (by decide) 4 (.string ⟨#[]⟩))
        have HK42 := hide (HK41.out.setNew ⟨w.heap.size, 4, none⟩ (by (try simp only []); omega) (.string ⟨#[]⟩))
        have HN42F := hide (set_other_at HN41F.out (show w2.heap.size ≠ w.heap.size by omega) 4 (.string ⟨#[]⟩))
        have HN42R := hide (show (((((wA.setCell ⟨w.heap.size, 0, none⟩ (.string n)).setCell ⟨w.heap.size, 1, none⟩ (.string a)).setCell ⟨w.heap.size, 2, none⟩ (.string h)).setCell ⟨w.heap.size, 3, none⟩ (.string ⟨#[]⟩)).setCell ⟨w.heap.size, 4, none⟩ (.string ⟨#[]⟩)).heap[w.heap.size]? = some (.cells #[.string n, .string a, .string h, .string ⟨#[]⟩, .string ⟨#[]⟩, .pointer none] 180 (0, 0)) from setCell_block HN41R.out 4 (.string ⟨#[]⟩))
        have HT42 := hide (HT41.out.stays (Stay.set (F := w.heap.size) (by omega) 4 (.string ⟨#[]⟩)))
        clear H41 HP41 HK41 HN41F HN41R HT41
        have H43 := hide (H42.out.set (F := w.heap.size) (by omega) (by omega) 5 (.pointer (some ⟨ku, 0, none⟩)))
        have HP43 := hide (HP42.out.set HN42R.out (by decide) 5 (.pointer (some ⟨ku, 0, none⟩)))
        have HK43 := hide (HK42.out.setNew ⟨w.heap.size, 5, none⟩ (by (try simp only []); omega) (.pointer (some ⟨ku, 0, none⟩)))
        have HN43F := hide (set_other_at HN42F.out (show w2.heap.size ≠ w.heap.size by omega) 5 (.pointer (some ⟨ku, 0, none⟩)))
        have HN43R := hide (show ((((((wA.setCell ⟨w.heap.size, 0, none⟩ (.string n)).setCell ⟨w.heap.size, 1, none⟩ (.string a)).setCell ⟨w.heap.size, 2, none⟩ (.string h)).setCell ⟨w.heap.size, 3, none⟩ (.string ⟨#[]⟩)).setCell ⟨w.heap.size, 4, none⟩ (.string ⟨#[]⟩)).setCell ⟨w.heap.size, 5, none⟩ (.pointer (some ⟨ku, 0, none⟩))).heap[w.heap.size]? = some (.cells #[.string n, .string a, .string h, .string ⟨#[]⟩, .string ⟨#[]⟩, .pointer (some ⟨ku, 0, none⟩)] 180 (0, 0)) from setCell_block HN42R.out 5 (.pointer (some ⟨ku, 0, none⟩)))
        have HT43 := hide (HT42.out.stays (Stay.set (F := w.heap.size) (by omega) 5 (.pointer (some ⟨ku, 0, none⟩))))
        clear H42 HP42 HK42 HN42F HN42R HT42
        go_wp2_with fail
        rw [HE.out]
        exact bodyPost_ret (v := .agg #[.string n, .string a, .string h, .string ⟨#[]⟩, .string ⟨#[]⟩, .pointer (some ⟨ku, 0, none⟩)]) (by simp [results, Tryz.results169, go_sem, *]) rfl ⟨_, rfl, HT43.out.mono (by omega), H43.out, HK43.out⟩
      · rw [hx] at hc
        have hlt' := ln_tl_lt s' 11 (by decide) hx
        obtain ⟨f', rfl⟩ : ∃ f', f = f' + 1 := ⟨f - 1, by omega⟩
        have HE := hide (show pMarks 801 s0 ⟨#[]⟩ ⟨#[]⟩ = pMarks f' (pMark a h (tl s')).2 (pMark a h (tl s')).1.1 (pMark a h (tl s')).1.2 from by rw [HM.out, pMarks, if_pos hx])
        have hlm := ln_pMark a h (tl s')
        clear hx HM
        go_wp2_with fail
        refine hc.mono ?_
        clear hc
        rintro e wA ⟨rfl, h2, k2⟩
        have HF2 := hide (k2.at HF1.out (by omega))
        have HR2 := hide (k2.at HR1.out (by omega))
        have zF2 := lt_of_block HF2.out
        have zR2 := lt_of_block HR2.out
        have H2 := hide h2
        have HP2 := hide (HP1.out.keep H1.out k2)
        have HK2 := hide (HK1.out.trans k2)
        have HT2 := hide (HT1.out.stays (H1.out.stay k2))
        have hm := readMark_any wA p b S G w2.heap.size (tl s') n a h ⟨#[]⟩ ⟨#[]⟩ _ HP2.out h2 HF2.out (by omega)
        clear h2 k2 H1 HP1 HK1 HT1 HF1 HR1
        go_wp2_with fail
        refine hm.mono ?_
        clear hm
        rintro e wB ⟨rfl, h3, hF3, k3⟩
        have hR3 := (k3.block w.heap.size (by omega) (by omega) (by omega)).trans HR2.out
        have hP3 : PP wB p b S := (k3.block p HP2.out.lt (HP2.out.ne (H2.out.ty.choose_spec) (by decide)) (HP2.out.ne HF2.out (by decide))).trans HP2.out
        have hT3 := HT2.out.stays (Stay.of_keep2 k3 H2.out.ty.choose_spec HF2.out (by decide) (by decide))
        have hK3 := HK2.out.two k3 (by omega)
        have HX := hide (show PS wB b G (pMark a h (tl s')).2 ∧ PP wB p b S ∧ _ ∧ _ ∧ _ ∧ _ from ⟨h3, hP3, hF3, hR3, hT3, hK3⟩)
        clear h3 hP3 hF3 hR3 hT3 hK3 k3 H2 HP2 HK2 HT2 HF2 HR2
        go_wp2_with fail
        go_roundg (ln (pMark a h (tl s')).2)
        case measure => omega
        case rel => exact ⟨_, _, _, f', Nat.le_refl _, by omega, HX.out.1, HX.out.2.1, HX.out.2.2.1, HX.out.2.2.2.1, HX.out.2.2.2.2.1, HX.out.2.2.2.2.2, HE.out⟩
  · skip
    rw [show pFArg s1 = ((pArg (tl s1)).1, mustT (pArg (tl s1)).2 (isK (pArg (tl s1)).2 8)) from by rw [pFArg, if_pos hx]] at HQ
    have ht1 := fun W (h : PS W b G s1) => take_any W b G s1 7 h
    rw [hx] at ht1
    clear hx
    have hga := fun W (hP : PP W p b S) (h : PS W b G (tl s1)) => readArgument_any W p b S G (tl s1) hP h
    generalize pArg (tl s1) = pa at *
    obtain ⟨⟨px, py⟩, s2⟩ := pa
    simp only [] at HQ hga
    go_enter Tryz.func169, Tryz.ntmps169
    go_wp2_with fail
    refine hc.mono ?_
    clear hc
    rintro e w2 ⟨rfl, h2, k2⟩
    have HP2 := hide (HP1.out.keep H1.out k2)
    have HK2 := hide (HK1.out.trans k2)
    have HN2R := hide (k2.at HN1R.out (by omega))
    have z2R := lt_of_block HN2R.out
    have H2 := hide h2
    have c2 := HP2.out.c0
    have zw2 := HK2.out.size
    have zp2 := HP2.out.lt
    have zb2 := H2.out.lt
    clear H1 HP1 HK1 HN1R h2 k2
    have H3 := hide (H2.out.alloc (.cells #[.string n, .string ⟨#[]⟩, .string ⟨#[]⟩, .string ⟨#[]⟩, .string ⟨#[]⟩, .pointer none] 180))
    have HP3 := hide (HP2.out.alloc (.cells #[.string n, .string ⟨#[]⟩, .string ⟨#[]⟩, .string ⟨#[]⟩, .string ⟨#[]⟩, .pointer none] 180))
    have HK3 := hide (HK2.out.alloc (.cells #[.string n, .string ⟨#[]⟩, .string ⟨#[]⟩, .string ⟨#[]⟩, .string ⟨#[]⟩, .pointer none] 180))
    have HN3R := hide (show (w2.alloc (.cells #[.string n, .string ⟨#[]⟩, .string ⟨#[]⟩, .string ⟨#[]⟩, .string ⟨#[]⟩, .pointer none] 180)).heap[w.heap.size]? = some (.cells #[.string ⟨#[]⟩, .string ⟨#[]⟩, .string ⟨#[]⟩, .string ⟨#[]⟩, .string ⟨#[]⟩, .pointer none] 180 (0, 0)) from by rw [alloc_other _ _ _ (lt_of_block HN2R.out)]; exact HN2R.out)
    have HN3F := hide (show (w2.alloc (.cells #[.string n, .string ⟨#[]⟩, .string ⟨#[]⟩, .string ⟨#[]⟩, .string ⟨#[]⟩, .pointer none] 180)).heap[w2.heap.size]? = some (.cells #[.string n, .string ⟨#[]⟩, .string ⟨#[]⟩, .string ⟨#[]⟩, .string ⟨#[]⟩, .pointer none] 180 (0, 0)) from heap_alloc_new _ _)
    clear H2 HP2 HK2 HN2R
    have c3 := HP3.out.c0
    have ht := ht1 (w2.alloc (.cells #[.string n, .string ⟨#[]⟩, .string ⟨#[]⟩, .string ⟨#[]⟩, .string ⟨#[]⟩, .pointer none] 180)) H3.out
    clear ht1
    go_wp2_with fail
    refine ht.mono ?_
    clear ht
    rintro e w4 ⟨rfl, h4, k4⟩
    have HP4 := hide (HP3.out.keep H3.out k4)
    have HK4 := hide (HK3.out.trans k4)
    have HN4R := hide (k4.at HN3R.out (by omega))
    have z4R := lt_of_block HN4R.out
    have HN4F := hide (k4.at HN3F.out (by omega))
    have z4F := lt_of_block HN4F.out
    have H4 := hide h4
    have c4 := HP4.out.c0
    have zw4 := HK4.out.size
    have zp4 := HP4.out.lt
    have zb4 := H4.out.lt
    clear H3 HP3 HK3 HN3R HN3F h4 k4
    have ha := hga w4 HP4.out H4.out
    clear hga
    go_wp2_with fail
    refine ha.mono ?_
    clear ha
    rintro e w5 ⟨rfl, h5, k5⟩
    have HP5 := hide (HP4.out.keep H4.out k5)
    have HK5 := hide (HK4.out.trans k5)
    have HN5R := hide (k5.at HN4R.out (by omega))
    have z5R := lt_of_block HN5R.out
    have HN5F := hide (k5.at HN4F.out (by omega))
    have z5F := lt_of_block HN5F.out
    have H5 := hide h5
    have c5 := HP5.out.c0
    have zw5 := HK5.out.size
    have zp5 := HP5.out.lt
    have zb5 := H5.out.lt
    clear H4 HP4 HK4 HN4R HN4F h5 k5
    have d6 : w5.cell? ⟨w2.heap.size, 3, none⟩ = some (.string ⟨#[]⟩) := cell_of_block HN5F.out 3
    have d7 : w5.cell? ⟨w2.heap.size, 4, none⟩ = some (.string ⟨#[]⟩) := cell_of_block HN5F.out 4
    have f8 := frozen_of_block HN5F.out 3
    have f9 := frozen_of_block HN5F.out 4
    have H10 := hide (H5.out.set (F := w2.heap.size) (by omega) (by omega) 3 (.string px))
    have HP10 := hide (HP5.out.set HN5F.out (by decide) 3 (.string px))
    have HK10 := hide (HK5.out.setNew ⟨w2.heap.size, 3, none⟩ (by (try simp only []); omega) (.string px))
    have HN10R := hide (set_other_at HN5R.out (show w.heap.size ≠ w2.heap.size by omega) 3 (.string px))
    have HN10F := hide (show (w5.setCell ⟨w2.heap.size, 3, none⟩ (.string px)).heap[w2.heap.size]? = some (.cells #[.string n, .string ⟨#[]⟩, .string ⟨#[]⟩, .string px, .string ⟨#[]⟩, .pointer none] 180 (0, 0)) from setCell_block HN5F.out 3 (.string px))
    clear H5 HP5 HK5 HN5R HN5F
    have H11 := hide (H10.out.set (F := w2.heap.size) (by omega) (by omega) 4 (.string py))
    have HP11 := hide (HP10.out.set HN10F.out (by decide) 4 (.string py))
    have HK11 := hide (HK10.out.setNew ⟨w2.heap.size, 4, none⟩ (by (try simp only []); omega) (.string py))
    have HN11R := hide (set_other_at HN10R.out (show w.heap.size ≠ w2.heap.size by omega) 4 (.string py))
    have HN11F := hide (show ((w5.setCell ⟨w2.heap.size, 3, none⟩ (.string px)).setCell ⟨w2.heap.size, 4, none⟩ (.string py)).heap[w2.heap.size]? = some (.cells #[.string n, .string ⟨#[]⟩, .string ⟨#[]⟩, .string px, .string py, .pointer none] 180 (0, 0)) from setCell_block HN10F.out 4 (.string py))
    clear H10 HP10 HK10 HN10R HN10F
    have hb := need_any ((w5.setCell ⟨w2.heap.size, 3, none⟩ (.string px)).setCell ⟨w2.heap.size, 4, none⟩ (.string py)) b G s2 8 H11.out
    go_wp2_with fail
    refine hb.mono ?_
    clear hb
    rintro e w12 ⟨rfl, h12, k12⟩
    have HP12 := hide (HP11.out.keep H11.out k12)
    have HK12 := hide (HK11.out.trans k12)
    have HN12R := hide (k12.at HN11R.out (by omega))
    have z12R := lt_of_block HN12R.out
    have HN12F := hide (k12.at HN11F.out (by omega))
    have z12F := lt_of_block HN12F.out
    have H12 := hide h12
    have c12 := HP12.out.c0
    have zw12 := HK12.out.size
    have zp12 := HP12.out.lt
    have zb12 := H12.out.lt
    clear H11 HP11 HK11 HN11R HN11F h12 k12
    have hn := need_any w12 b G (mustT s2 (isK s2 8)) 9 H12.out
    go_wp2_with fail
    refine hn.mono ?_
    clear hn
    rintro e w13 ⟨rfl, h13, k13⟩
    have HP13 := hide (HP12.out.keep H12.out k13)
    have HK13 := hide (HK12.out.trans k13)
    have HN13R := hide (k13.at HN12R.out (by omega))
    have z13R := lt_of_block HN13R.out
    have HN13F := hide (k13.at HN12F.out (by omega))
    have z13F := lt_of_block HN13F.out
    have H13 := hide h13
    have c13 := HP13.out.c0
    have zw13 := HK13.out.size
    have zp13 := HP13.out.lt
    have zb13 := H13.out.lt
    clear H12 HP12 HK12 HN12R HN12F h13 k13
    have ht := readType_any w13 p b S G (mustT (mustT s2 (isK s2 8)) (isK (mustT s2 (isK s2 8)) 9)) HP13.out H13.out
    generalize pType 802 (mustT (mustT s2 (isK s2 8)) (isK (mustT s2 (isK s2 8)) 9)) = tt at *
    go_wp2_with fail
    refine ht.mono ?_
    clear ht
    rintro e w14 ⟨u, rfl, t0, h14, k14⟩
    have HP14 := hide (HP13.out.keep H13.out k14)
    have HK14 := hide (HK13.out.trans k14)
    have HN14R := hide (k14.at HN13R.out (by omega))
    have z14R := lt_of_block HN14R.out
    have HN14F := hide (k14.at HN13F.out (by omega))
    have z14F := lt_of_block HN14F.out
    have H14 := hide h14
    have c14 := HP14.out.c0
    have zw14 := HK14.out.size
    have zp14 := HP14.out.lt
    have zb14 := H14.out.lt
    clear H13 HP13 HK13 HN13R HN13F h14 k14
    obtain ⟨ku, hku⟩ := t0.ptr
    subst hku
    have HT := hide t0
    clear t0
    have d15 : w14.cell? ⟨w2.heap.size, 5, none⟩ = some (.pointer none) := cell_of_block HN14F.out 5
    have f16 := frozen_of_block HN14F.out 5
    have H17 := hide (H14.out.set (F := w2.heap.size) (by omega) (by omega) 5 (.pointer (some ⟨ku, 0, none⟩)))
    have HP17 := hide (HP14.out.set HN14F.out (by decide) 5 (.pointer (some ⟨ku, 0, none⟩)))
    have HK17 := hide (HK14.out.setNew ⟨w2.heap.size, 5, none⟩ (by (try simp only []); omega) (.pointer (some ⟨ku, 0, none⟩)))
    have HN17R := hide (set_other_at HN14R.out (show w.heap.size ≠ w2.heap.size by omega) 5 (.pointer (some ⟨ku, 0, none⟩)))
    have HN17F := hide (show (w14.setCell ⟨w2.heap.size, 5, none⟩ (.pointer (some ⟨ku, 0, none⟩))).heap[w2.heap.size]? = some (.cells #[.string n, .string ⟨#[]⟩, .string ⟨#[]⟩, .string px, .string py, .pointer (some ⟨ku, 0, none⟩)] 180 (0, 0)) from setCell_block HN14F.out 5 (.pointer (some ⟨ku, 0, none⟩)))
    have HT17 := hide (HT.out.stays (Stay.set (F := w2.heap.size) (by omega) 5 (.pointer (some ⟨ku, 0, none⟩))))
    clear H14 HP14 HK14 HN14R HN14F HT
    go_wp2_with fail
    have h0 := H17.out
    have hP0 := HP17.out
    have hR0 := HN17R.out
    have hF0 := HN17F.out
    have hK0 := HK17.out
    have hT0 := HT17.out
    have hl0 := h0.len
    clear H17 HP17 HN17R HN17F HK17 HT17
    have HQ2 := hide (show FF = (⟨n, (pMarks 801 tt.2 ⟨#[]⟩ ⟨#[]⟩).1.1, (pMarks 801 tt.2 ⟨#[]⟩ ⟨#[]⟩).1.2, px, py, tt.1⟩, (pMarks 801 tt.2 ⟨#[]⟩ ⟨#[]⟩).2) from HQ.out)
    clear HQ
    generalize tt.2 = s0 at *
    generalize tt.1 = ty at *
    generalize (w14.setCell ⟨w2.heap.size, 5, none⟩ (.pointer (some ⟨ku, 0, none⟩))) = wl at *
    go_loopg [] (ln s0) (fun k wr => ∃ (a h : ByteArray) (s' : St) (f : Nat), ln s' ≤ k ∧ ln s' ≤ f ∧ PS wr b G s' ∧ PP wr p b S ∧ wr.heap[w2.heap.size]? = some (.cells #[.string n, .string a, .string h, .string px, .string py, .pointer (some ⟨ku, 0, none⟩)] 180 (0, 0)) ∧ wr.heap[w.heap.size]? = some (.cells #[.string ⟨#[]⟩, .string ⟨#[]⟩, .string ⟨#[]⟩, .string ⟨#[]⟩, .string ⟨#[]⟩, .pointer none] 180 (0, 0)) ∧ TyAt wr (w13.heap.size) (.pointer (some ⟨ku, 0, none⟩)) ty ∧ Keep b w wr ∧ pMarks 801 s0 ⟨#[]⟩ ⟨#[]⟩ = pMarks f s' a h)
    case atStart => exact ⟨_, _, s0, 801, Nat.le_refl _, hl0, h0, hP0, hF0, hR0, hT0, hK0, rfl⟩
    case round =>
      clear h0 hP0 hF0 hR0 hT0 hK0 hl0
      obtain ⟨a, h, s', f, hlk, hlf, h1, hP1, hF1, hR1, hT1, hK1, hrel⟩ := hrel
      have HM := hide hrel
      have H1 := hide h1
      have HP1 := hide hP1
      have HF1 := hide hF1
      have HR1 := hide hR1
      have HT1 := hide hT1
      have HK1 := hide hK1
      have c1 := hP1.c0
      have zF1 := lt_of_block hF1
      have zR1 := lt_of_block hR1
      have hc := take_any wr b G s' 11 h1
      clear h1 hP1 hF1 hR1 hT1 hK1 hrel
      cases hx : isK s' 11
      · rw [hx] at hc
        have HE := hide (show FF = (⟨n, a, h, px, py, ty⟩, s') from by
          rw [HQ2.out, HM.out]
          cases f with
          | zero => rfl
          | succ f => rw [show pMarks (f + 1) s' a h = ((a, h), s') from by rw [pMarks, if_neg (by rw [hx]; simp)]])
        clear hx HM
        go_wp2_with fail
        refine hc.mono ?_
        clear hc
        rintro e wA ⟨rfl, h2, k2⟩
        have HF2 := hide (k2.at HF1.out (by omega))
        have HR2 := hide (k2.at HR1.out (by omega))
        have zF2 := lt_of_block HF2.out
        have zR2 := lt_of_block HR2.out
        have H2 := hide h2
        have HP2 := hide (HP1.out.keep H1.out k2)
        have HK2 := hide (HK1.out.trans k2)
        have HT2 := hide (HT1.out.stays (H1.out.stay k2))
        clear h2 k2 H1 HP1 HK1 HT1 HF1 HR1
        have d28 : wA.cell? ⟨w2.heap.size, 0, none⟩ = some (.string n) := cell_of_block HF2.out 0
        have d29 : wA.cell? ⟨w2.heap.size, 1, none⟩ = some (.string a) := cell_of_block HF2.out 1
        have d30 : wA.cell? ⟨w2.heap.size, 2, none⟩ = some (.string h) := cell_of_block HF2.out 2
        have d31 : wA.cell? ⟨w2.heap.size, 3, none⟩ = some (.string px) := cell_of_block HF2.out 3
        have d32 : wA.cell? ⟨w2.heap.size, 4, none⟩ = some (.string py) := cell_of_block HF2.out 4
        have d33 : wA.cell? ⟨w2.heap.size, 5, none⟩ = some (.pointer (some ⟨ku, 0, none⟩)) := cell_of_block HF2.out 5
        have d34 : wA.cell? ⟨w.heap.size, 0, none⟩ = some (.string ⟨#[]⟩) := cell_of_block HR2.out 0
        have d35 : wA.cell? ⟨w.heap.size, 1, none⟩ = some (.string ⟨#[]⟩) := cell_of_block HR2.out 1
        have d36 : wA.cell? ⟨w.heap.size, 2, none⟩ = some (.string ⟨#[]⟩) := cell_of_block HR2.out 2
        have d37 : wA.cell? ⟨w.heap.size, 3, none⟩ = some (.string ⟨#[]⟩) := cell_of_block HR2.out 3
        have d38 : wA.cell? ⟨w.heap.size, 4, none⟩ = some (.string ⟨#[]⟩) := cell_of_block HR2.out 4
        have d39 : wA.cell? ⟨w.heap.size, 5, none⟩ = some (.pointer none) := cell_of_block HR2.out 5
        have f40 := frozen_of_block HR2.out 0
        have f41 := frozen_of_block HR2.out 1
        have f42 := frozen_of_block HR2.out 2
        have f43 := frozen_of_block HR2.out 3
        have f44 := frozen_of_block HR2.out 4
        have f45 := frozen_of_block HR2.out 5
        have H46 := hide (H2.out.set (F := w.heap.size) (by omega) (by omega) 0 (.string n))
        have HP46 := hide (HP2.out.set HR2.out (by decide) 0 (.string n))
        have HK46 := hide (HK2.out.setNew ⟨w.heap.size, 0, none⟩ (by (try simp only []); omega) (.string n))
        have HN46F := hide (set_other_at HF2.out (show w2.heap.size ≠ w.heap.size by omega) 0 (.string n))
        have HN46R := hide (show (wA.setCell ⟨w.heap.size, 0, none⟩ (.string n)).heap[w.heap.size]? = some (.cells #[.string n, .string ⟨#[]⟩, .string ⟨#[]⟩, .string ⟨#[]⟩, .string ⟨#[]⟩, .pointer none] 180 (0, 0)) from setCell_block HR2.out 0 (.string n))
        have HT46 := hide (HT2.out.stays (Stay.set (F := w.heap.size) (by omega) 0 (.string n)))
        clear H2 HP2 HK2 HF2 HR2 HT2
        have H47 := hide (H46.out.set (F := w.heap.size) (by omega) (by omega) 1 (.string a))
        have HP47 := hide (HP46.out.set HN46R.out (by decide) 1 (.string a))
        have HK47 := hide (HK46.out.setNew ⟨w.heap.size, 1, none⟩ (by (try simp only []); omega) (.string a))
        have HN47F := hide (set_other_at HN46F.out (show w2.heap.size ≠ w.heap.size by omega) 1 (.string a))
        have HN47R := hide (show ((wA.setCell ⟨w.heap.size, 0, none⟩ (.string n)).setCell ⟨w.heap.size, 1, none⟩ (.string a)).heap[w.heap.size]? = some (.cells #[.string n, .string a, .string ⟨#[]⟩, .string ⟨#[]⟩, .string ⟨#[]⟩, .pointer none] 180 (0, 0)) from setCell_block HN46R.out 1 (.string a))
        have HT47 := hide (HT46.out.stays (Stay.set (F := w.heap.size) (by omega) 1 (.string a)))
        clear H46 HP46 HK46 HN46F HN46R HT46
        have H48 := hide (H47.out.set (F := w.heap.size) (by omega) (by omega) 2 (.string h))
        have HP48 := hide (HP47.out.set HN47R.out (by decide) 2 (.string h))
        have HK48 := hide (HK47.out.setNew ⟨w.heap.size, 2, none⟩ (by (try simp only []); omega) (.string h))
        have HN48F := hide (set_other_at HN47F.out (show w2.heap.size ≠ w.heap.size by omega) 2 (.string h))
        have HN48R := hide (show (((wA.setCell ⟨w.heap.size, 0, none⟩ (.string n)).setCell ⟨w.heap.size, 1, none⟩ (.string a)).setCell ⟨w.heap.size, 2, none⟩ (.string h)).heap[w.heap.size]? = some (.cells #[.string n, .string a, .string h, .string ⟨#[]⟩, .string ⟨#[]⟩, .pointer none] 180 (0, 0)) from setCell_block HN47R.out 2 (.string h))
        have HT48 := hide (HT47.out.stays (Stay.set (F := w.heap.size) (by omega) 2 (.string h)))
        clear H47 HP47 HK47 HN47F HN47R HT47
        have H49 := hide (H48.out.set (F := w.heap.size) (by omega) (by omega) 3 (.string px))
        have HP49 := hide (HP48.out.set HN48R.out (by decide) 3 (.string px))
        have HK49 := hide (HK48.out.setNew ⟨w.heap.size, 3, none⟩ (by (try simp only []); omega) (.string px))
        have HN49F := hide (set_other_at HN48F.out (show w2.heap.size ≠ w.heap.size by omega) 3 (.string px))
        have HN49R := hide (show ((((wA.setCell ⟨w.heap.size, 0, none⟩ (.string n)).setCell ⟨w.heap.size, 1, none⟩ (.string a)).setCell ⟨w.heap.size, 2, none⟩ (.string h)).setCell ⟨w.heap.size, 3, none⟩ (.string px)).heap[w.heap.size]? = some (.cells #[.string n, .string a, .string h, .string px, .string ⟨#[]⟩, .pointer none] 180 (0, 0)) from setCell_block HN48R.out 3 (.string px))
        have HT49 := hide (HT48.out.stays (Stay.set (F := w.heap.size) (by omega) 3 (.string px)))
        clear H48 HP48 HK48 HN48F HN48R HT48
        have H50 := hide (H49.out.set (F := w.heap.size) (by omega) (by omega) 4 (.string py))
        have HP50 := hide (HP49.out.set HN49R.out (by decide) 4 (.string py))
        have HK50 := hide (HK49.out.setNew ⟨w.heap.size, 4, none⟩ (by (try simp only []); omega) (.string py))
        have HN50F := hide (set_other_at HN49F.out (show w2.heap.size ≠ w.heap.size by omega) 4 (.string py))
        have HN50R := hide (show (((((wA.setCell ⟨w.heap.size, 0, none⟩ (.string n)).setCell ⟨w.heap.size, 1, none⟩ (.string a)).setCell ⟨w.heap.size, 2, none⟩ (.string h)).setCell ⟨w.heap.size, 3, none⟩ (.string px)).setCell ⟨w.heap.size, 4, none⟩ (.string py)).heap[w.heap.size]? = some (.cells #[.string n, .string a, .string h, .string px, .string py, .pointer none] 180 (0, 0)) from setCell_block HN49R.out 4 (.string py))
        have HT50 := hide (HT49.out.stays (Stay.set (F := w.heap.size) (by omega) 4 (.string py)))
        clear H49 HP49 HK49 HN49F HN49R HT49
        have H51 := hide (H50.out.set (F := w.heap.size) (by omega) (by omega) 5 (.pointer (some ⟨ku, 0, none⟩)))
        have HP51 := hide (HP50.out.set HN50R.out (by decide) 5 (.pointer (some ⟨ku, 0, none⟩)))
        have HK51 := hide (HK50.out.setNew ⟨w.heap.size, 5, none⟩ (by (try simp only []); omega) (.pointer (some ⟨ku, 0, none⟩)))
        have HN51F := hide (set_other_at HN50F.out (show w2.heap.size ≠ w.heap.size by omega) 5 (.pointer (some ⟨ku, 0, none⟩)))
        have HN51R := hide (show ((((((wA.setCell ⟨w.heap.size, 0, none⟩ (.string n)).setCell ⟨w.heap.size, 1, none⟩ (.string a)).setCell ⟨w.heap.size, 2, none⟩ (.string h)).setCell ⟨w.heap.size, 3, none⟩ (.string px)).setCell ⟨w.heap.size, 4, none⟩ (.string py)).setCell ⟨w.heap.size, 5, none⟩ (.pointer (some ⟨ku, 0, none⟩))).heap[w.heap.size]? = some (.cells #[.string n, .string a, .string h, .string px, .string py, .pointer (some ⟨ku, 0, none⟩)] 180 (0, 0)) from setCell_block HN50R.out 5 (.pointer (some ⟨ku, 0, none⟩)))
        have HT51 := hide (HT50.out.stays (Stay.set (F := w.heap.size) (by omega) 5 (.pointer (some ⟨ku, 0, none⟩))))
        clear H50 HP50 HK50 HN50F HN50R HT50
        go_wp2_with fail
        rw [HE.out]
        exact bodyPost_ret (v := .agg #[.string n, .string a, .string h, .string px, .string py, .pointer (some ⟨ku, 0, none⟩)]) (by simp [results, Tryz.results169, go_sem, *]) rfl ⟨_, rfl, HT51.out.mono (by omega), H51.out, HK51.out⟩
      · rw [hx] at hc
        have hlt' := ln_tl_lt s' 11 (by decide) hx
        obtain ⟨f', rfl⟩ : ∃ f', f = f' + 1 := ⟨f - 1, by omega⟩
        have HE := hide (show pMarks 801 s0 ⟨#[]⟩ ⟨#[]⟩ = pMarks f' (pMark a h (tl s')).2 (pMark a h (tl s')).1.1 (pMark a h (tl s')).1.2 from by rw [HM.out, pMarks, if_pos hx])
        have hlm := ln_pMark a h (tl s')
        clear hx HM
        go_wp2_with fail
        refine hc.mono ?_
        clear hc
        rintro e wA ⟨rfl, h2, k2⟩
        have HF2 := hide (k2.at HF1.out (by omega))
        have HR2 := hide (k2.at HR1.out (by omega))
        have zF2 := lt_of_block HF2.out
        have zR2 := lt_of_block HR2.out
        have H2 := hide h2
        have HP2 := hide (HP1.out.keep H1.out k2)
        have HK2 := hide (HK1.out.trans k2)
        have HT2 := hide (HT1.out.stays (H1.out.stay k2))
        have hm := readMark_any wA p b S G w2.heap.size (tl s') n a h px py _ HP2.out h2 HF2.out (by omega)
        clear h2 k2 H1 HP1 HK1 HT1 HF1 HR1
        go_wp2_with fail
        refine hm.mono ?_
        clear hm
        rintro e wB ⟨rfl, h3, hF3, k3⟩
        have hR3 := (k3.block w.heap.size (by omega) (by omega) (by omega)).trans HR2.out
        have hP3 : PP wB p b S := (k3.block p HP2.out.lt (HP2.out.ne (H2.out.ty.choose_spec) (by decide)) (HP2.out.ne HF2.out (by decide))).trans HP2.out
        have hT3 := HT2.out.stays (Stay.of_keep2 k3 H2.out.ty.choose_spec HF2.out (by decide) (by decide))
        have hK3 := HK2.out.two k3 (by omega)
        have HX := hide (show PS wB b G (pMark a h (tl s')).2 ∧ PP wB p b S ∧ _ ∧ _ ∧ _ ∧ _ from ⟨h3, hP3, hF3, hR3, hT3, hK3⟩)
        clear h3 hP3 hF3 hR3 hT3 hK3 k3 H2 HP2 HK2 HT2 HF2 HR2
        go_wp2_with fail
        go_roundg (ln (pMark a h (tl s')).2)
        case measure => omega
        case rel => exact ⟨_, _, _, f', Nat.le_refl _, by omega, HX.out.1, HX.out.2.1, HX.out.2.2.1, HX.out.2.2.2.1, HX.out.2.2.2.2.1, HX.out.2.2.2.2.2, HE.out⟩
end Go.Proofs.YtpggfgjongkihaaGreat
namespace Go.Proofs.YtpggfgjongkihaaGreat
open Go.RowKit
theorem ln_pType : ∀ (f : Nat) (s : St), ln (pType f s).2 ≤ ln s
  | 0, s => Nat.le_refl _
  | f + 1, s => by
    rw [pType]
    split
    · exact Nat.le_trans (ln_mayT _ _) (Nat.le_trans (ln_mustT _ _) (Nat.le_trans (ln_pType f (tl s)) (ln_tl_le s)))
    · exact Nat.le_trans (ln_mayT _ _) (ln_nmT s)
theorem ln_pArg (s : St) : ln (pArg s).2 ≤ ln s := by
  unfold pArg
  refine Nat.le_trans (ln_mustT _ _) (Nat.le_trans (ln_mustT _ _) ?_)
  unfold pArgS
  split
  · exact ln_nmT s
  · split
    · exact ln_nmT s
    · simp [ln]
theorem ln_pFArg (s : St) : ln (pFArg s).2 ≤ ln s := by
  unfold pFArg
  split
  · exact Nat.le_trans (ln_mustT _ _) (Nat.le_trans (ln_pArg _) (ln_tl_le s))
  · exact Nat.le_refl _
theorem ln_pMarks : ∀ (f : Nat) (s : St) (a h : ByteArray), ln (pMarks f s a h).2 ≤ ln s
  | 0, s, a, h => Nat.le_refl _
  | f + 1, s, a, h => by
    rw [pMarks]
    split
    · exact Nat.le_trans (ln_pMarks f _ _ _) (Nat.le_trans (ln_pMark _ _ _) (ln_tl_le s))
    · exact Nat.le_refl _
theorem ln_pField_le (s : St) : ln (pField s).2 ≤ ln (nmT s) := by
  unfold pField
  exact Nat.le_trans (ln_pMarks _ _ _ _) (Nat.le_trans (ln_pType _ _) (by unfold pTyS; exact Nat.le_trans (ln_mustT _ _) (ln_pFArg _)))
theorem ln_nmT1 (s : St) (h : isK s 1 = true) : ln (nmT s) < ln s := by
  unfold nmT; rw [if_pos h]; exact ln_tl_lt s 1 (by decide) h
def pFieldsF : Nat → St → List PFld × St
  | 0, s => ([], s)
  | f + 1, s => if isK s 1 = true then ((pField s).1 :: (pFieldsF f (pField s).2).1, (pFieldsF f (pField s).2).2) else ([], s)
def pFields (s : St) : List PFld × St :=
  ((pField (mustT s (isK s 14))).1 :: (pFieldsF 801 (pField (mustT s (isK s 14))).2).1, mustT (pFieldsF 801 (pField (mustT s (isK s 14))).2).2 (isK (pFieldsF 801 (pField (mustT s (isK s 14))).2).2 15))
theorem pFieldsF_stop (f : Nat) (s : St) (h : isK s 1 = false) : pFieldsF f s = ([], s) := by
  cases f with
  | zero => rfl
  | succ f => rw [pFieldsF, if_neg (by rw [h]; simp)]
theorem ln_pFieldsF : ∀ (f : Nat) (s : St), ln (pFieldsF f s).2 ≤ ln s
  | 0, s => Nat.le_refl _
  | f + 1, s => by
    rw [pFieldsF]
    split
    · exact Nat.le_trans (ln_pFieldsF f _) (Nat.le_trans (ln_pField_le s) (ln_nmT s))
    · exact Nat.le_refl _
theorem ln_pFields (s : St) : ln (pFields s).2 ≤ ln s := by
  unfold pFields
  exact Nat.le_trans (ln_mustT _ _) (Nat.le_trans (ln_pFieldsF _ _) (Nat.le_trans (ln_pField_le _) (Nat.le_trans (ln_nmT _) (ln_mustT _ _))))
def pfsV (L : List (PFld × Value)) : List Value := L.flatMap fun x => (pfV x.1 x.2).toList
theorem pfsV_snoc (L : List (PFld × Value)) (x : PFld × Value) : pfsV (L ++ [x]) = pfsV L ++ (pfV x.1 x.2).toList := by simp [pfsV]
/-- a list of fields in memory, from a bound on -/
def PFlds (w : World) (B : Nat) (v : Value) (l : List PFld) : Prop := ∃ L : List (PFld × Value), L.map Prod.fst = l ∧ w.ownsRow B 180 6 v L.length (pfsV L) ∧ ∀ x ∈ L, TyAt w B x.2 x.1.ty
theorem ownsRow_stay {w w' : World} {base size n : Nat} {e : TypeId} {v : Value} {xs : List Value} (h : w.ownsRow base e size v n xs) (hs : Stay e base w w') : w'.ownsRow base e size v n xs := by
  refine ⟨h.1, ?_⟩
  rcases h.2 with x | ⟨g, cap, cur, hv, hg, hh, r⟩
  · exact Or.inl x
  · exact Or.inr ⟨g, cap, cur, hv, hg, hs g _ _ hg hh, r⟩
theorem PFlds.stays {w w' : World} {B : Nat} {v : Value} {l : List PFld} (h : PFlds w B v l) (h1 : Stay 180 B w w') (h2 : Stay 257 B w w') : PFlds w' B v l := by
  obtain ⟨L, e, ho, ht⟩ := h
  exact ⟨L, e, ownsRow_stay ho h1, fun x hx => (ht x hx).stays h2⟩
theorem PFlds.mono {w : World} {B C : Nat} {v : Value} {l : List PFld} (h : PFlds w B v l) (hc : C ≤ B) : PFlds w C v l := by
  obtain ⟨L, e, ho, ht⟩ := h
  exact ⟨L, e, ownsRow_lower ho hc, fun x hx => (ht x hx).mono hc⟩
theorem PS.grown {w w' : World} {b G B : Nat} {s : St} {row : Option Nat} (h : PS w b G s) (hg : w.grownBy w' row) (hr : ∀ k, row = some k → B ≤ k) (hb : b < B) (hG : G < B) : PS w' b G s :=
  h.move (hg.block b h.lt (fun e => by have := hr b e.symm; omega)) (hg.block G h.glt (fun e => by have := hr G e.symm; omega)) hg.size
theorem PP.grown {w w' : World} {p b S B : Nat} {row : Option Nat} (h : PP w p b S) (hg : w.grownBy w' row) (hr : ∀ k, row = some k → B ≤ k) (hp : p < B) : PP w' p b S := by
  unfold PP at *
  rw [hg.block p (lt_of_block h) (fun e => by have := hr p e.symm; omega)]; exact h
theorem Stay.grown {T : TypeId} {B : Nat} {w w' : World} {row : Option Nat} {base size n : Nat} {e : TypeId} {v : Value} {xs : List Value} (hg : w.grownBy w' row) (ho : w.ownsRow base e size v n xs) (hr : row = v.ownBlock) (hT : e ≠ T) : Stay T B w w' := fun k c fr _ a => by
  rw [hg.block k (lt_of_block a) (fun x => by
    rw [hr] at x
    rcases ho.2 with ⟨y, _⟩ | ⟨g, cap, cur, hv, hg, hh, r⟩
    · rw [y] at x; cases x
    · rw [hv] at x; cases x; rw [hh] at a; cases a; exact hT rfl)]
  exact a
theorem Tryz.info180 : (Tryz.prog.info? 180).map (fun i => (i.zero, i.size, i.bytes)) = some (some (.agg #[.string ⟨#[]⟩, .string ⟨#[]⟩, .string ⟨#[]⟩, .string ⟨#[]⟩, .string ⟨#[]⟩, .pointer none]), 6, 88) := by kernel_rfl
theorem one6 {a b c d e f : Value} (h1 : a.oneCell' = true) (h2 : b.oneCell' = true) (h3 : c.oneCell' = true) (h4 : d.oneCell' = true) (h5 : e.oneCell' = true) (h6 : f.oneCell' = true) : ∀ u ∈ [a, b, c, d, e, f], u.oneCell' = true := by
  intro u hu; simp at hu; rcases hu with rfl | rfl | rfl | rfl | rfl | rfl <;> assumption
set_option maxHeartbeats 2000000 in
set_option maxRecDepth 100000 in
theorem readFields_any (w : World) (p b S G : Nat) (s : St) (hP : PP w p b S) (h : PS w b G s) :
    Calls Tryz.prog 135 #[.pointer (some ⟨p, 0, none⟩)] w fun e w' => ∃ v, e = .returned v ∧ PFlds w' w.heap.size v (pFields s).1 ∧ (pFields s).1.length ≤ 802 ∧ PS w' b G (pFields s).2 ∧ Keep b w w' := by
  obtain ⟨i0, hi, hz0, hz1, hz2⟩ := info_parts Tryz.info180
  have hlt := h.lt
  have hgl := h.glt
  have hpl := hP.lt
  have c0 := hP.c0
  have HQ := hide (show pFields s = ((pField (mustT s (isK s 14))).1 :: (pFieldsF 801 (pField (mustT s (isK s 14))).2).1, mustT (pFieldsF 801 (pField (mustT s (isK s 14))).2).2 (isK (pFieldsF 801 (pField (mustT s (isK s 14))).2).2 15)) from rfl)
  generalize pFields s = FF at *
  have hn := need_any w b G s 14 h
  have H0 := hide h
  have HP0 := hide hP
  clear h hP
  generalize mustT s (isK s 14) = s1 at *
  have hf := fun W (hP : PP W p b S) (h : PS W b G s1) => readField_any W p b S G s1 hP h
  generalize pField s1 = f0 at *
  go_enter Tryz.func135, Tryz.ntmps135
  go_wp2_with fail
  refine hn.mono ?_
  clear hn
  rintro e w1 ⟨rfl, h1, k1⟩
  have HP1 := hide (HP0.out.keep H0.out k1)
  have K1 := hide k1
  have z1 := k1.size
  have hf1 := hf w1 HP1.out h1
  have H1 := hide h1
  clear k1 H0 HP0 h1 hf
  obtain ⟨⟨fn, fa, fh, fx, fs, ft⟩, s2⟩ := f0
  simp only [] at hf1
  go_wp2_with fail
  refine hf1.mono ?_
  clear hf1
  rintro e w2 ⟨u, rfl, t2, h2, k2⟩
  obtain ⟨ku, rfl⟩ := t2.ptr
  rw [show pfV ⟨fn, fa, fh, fx, fs, ft⟩ (.pointer (some ⟨ku, 0, none⟩)) = #[.string fn, .string fa, .string fh, .string fx, .string fs, .pointer (some ⟨ku, 0, none⟩)] from rfl]
  have HP2 := hide (HP1.out.keep H1.out k2)
  have K2 := hide (K1.out.trans k2)
  have z2 := k2.size
  have HT2 := hide t2
  have H2 := hide h2
  clear k2 t2 h2 H1 K1 HP1
  go_wp2_with fail
  have h3 := H2.out.alloc (.cells #[.string fn, .string fa, .string fh, .string fx, .string fs, .pointer (some ⟨ku, 0, none⟩)] 180)
  have hP3 := HP2.out.alloc (.cells #[.string fn, .string fa, .string fh, .string fx, .string fs, .pointer (some ⟨ku, 0, none⟩)] 180)
  have hK3 := K2.out.alloc (.cells #[.string fn, .string fa, .string fh, .string fx, .string fs, .pointer (some ⟨ku, 0, none⟩)] 180)
  have hT3 := (HT2.out.stays (Stay.alloc (.cells #[.string fn, .string fa, .string fh, .string fx, .string fs, .pointer (some ⟨ku, 0, none⟩)] 180))).mono z1
  have hN3 := heap_alloc_new w2 (.cells #[.string fn, .string fa, .string fh, .string fx, .string fs, .pointer (some ⟨ku, 0, none⟩)] 180)
  have hl3 := h3.len
  clear H2 HP2 K2 HT2
  generalize w2.alloc (.cells #[.string fn, .string fa, .string fh, .string fx, .string fs, .pointer (some ⟨ku, 0, none⟩)] 180) = wl at *
  go_loopg [3] (ln s2) (fun k v wr => ∃ (L : List (PFld × Value)) (s' : St) (f : Nat), ln s' ≤ k ∧ ln s' ≤ f ∧ PS wr b G s' ∧ PP wr p b S ∧ wr.ownsRow w.heap.size 180 6 v L.length (pfsV L) ∧ (∀ x ∈ L, TyAt wr w.heap.size x.2 x.1.ty) ∧ L.length + ln s' ≤ 802 ∧ Keep b w wr ∧ ((⟨fn, fa, fh, fx, fs, ft⟩ : PFld) :: (pFieldsF 801 s2).1, (pFieldsF 801 s2).2) = (L.map Prod.fst ++ (pFieldsF f s').1, (pFieldsF f s').2))
  case atStart =>
    refine ⟨[(⟨fn, fa, fh, fx, fs, ft⟩, .pointer (some ⟨ku, 0, none⟩))], s2, 801, Nat.le_refl _, hl3, h3, hP3, ?_, ?_, by simp; omega, hK3, rfl⟩
    · exact ⟨rfl, Or.inr ⟨w2.heap.size, 1, _, rfl, by omega, hN3, Nat.le_refl _, by decide, rfl, rfl⟩⟩
    · intro x hx; rw [List.mem_singleton] at hx; subst hx; exact hT3
  case round =>
    clear h3 hP3 hK3 hT3 hN3 hl3
    obtain ⟨L, s', f, hlk, hlf, h4, hP4, hown4, hT4, hLn, hK4, hrel⟩ := hrel
    have HM := hide hrel
    have c4 := hP4.c0
    have hc := sees_any wr b G s' 1 h4
    have H4 := hide h4
    have HP4 := hide hP4
    have HO4 := hide hown4
    have HT4 := hide hT4
    have HK4 := hide hK4
    have z4 := hK4.size
    obtain ⟨aL, capL, rfl⟩ := own_slice hown4
    clear h4 hP4 hown4 hT4 hK4 hrel
    cases hx : isK s' 1
    · rw [hx] at hc
      have HE := hide (show FF = (L.map Prod.fst, mustT s' (isK s' 15)) from by
        have := HM.out
        rw [pFieldsF_stop f s' hx] at this
        simp only [Prod.mk.injEq, List.append_nil] at this
        rw [HQ.out]
        rw [this.1, this.2])
      clear hx HM HQ
      go_wp2_with fail
      refine hc.mono ?_
      clear hc
      rintro e w5 ⟨rfl, k5⟩
      have h5 := H4.out.below k5
      have hP5 := HP4.out.below k5
      have c5 := hP5.c0
      have hm := need_any w5 b G s' 15 h5
      have H5 := hide h5
      have HO5 := hide (ownsRow_below HO4.out k5)
      have HT5 := hide (fun x hx => (HT4.out x hx).stays (Stay.of_below k5))
      have HK5 := hide (HK4.out.trans (Keep.of_below k5))
      clear h5 hP5 k5 H4 HP4 HO4 HT4 HK4
      go_wp2_with fail
      refine hm.mono ?_
      clear hm
      rintro e w6 ⟨rfl, h6, k6⟩
      have HO6 := hide (ownsRow_stay HO5.out (H5.out.stay k6))
      have HT6 := hide (fun x hx => (HT5.out x hx).stays (H5.out.stay k6))
      have HK6 := hide (HK5.out.trans k6)
      have H6 := hide h6
      clear h6 k6 HO5 HT5 HK5 H5
      go_wp2_with fail
      go_ret
      exact ⟨_, rfl, by rw [HE.out]; exact ⟨L, rfl, HO6.out, HT6.out⟩, by rw [HE.out]; simp; omega, by rw [HE.out]; exact H6.out, HK6.out⟩
    · rw [hx] at hc
      have hlt1 := ln_nmT1 s' hx
      have hlf1 := ln_pField_le s'
      obtain ⟨f', rfl⟩ : ∃ f', f = f' + 1 := ⟨f - 1, by omega⟩
      have HE := hide (show ((⟨fn, fa, fh, fx, fs, ft⟩ : PFld) :: (pFieldsF 801 s2).1, (pFieldsF 801 s2).2) = (L.map Prod.fst ++ ((pField s').1 :: (pFieldsF f' (pField s').2).1), (pFieldsF f' (pField s').2).2) from by
        rw [HM.out, pFieldsF, if_pos hx])
      clear hx HM
      have hf := fun W (hP : PP W p b S) (h : PS W b G s') => readField_any W p b S G s' hP h
      generalize pField s' = f1 at *
      obtain ⟨⟨gn, ga, gh, gx, gs, gt⟩, s3⟩ := f1
      simp only [] at hf HE hlf1
      go_wp2_with fail
      refine hc.mono ?_
      clear hc
      rintro e w5 ⟨rfl, k5⟩
      have h5 := H4.out.below k5
      have hP5 := HP4.out.below k5
      have hm := hf w5 hP5 h5
      have H5 := hide h5
      have HP5 := hide hP5
      have HO5 := hide (ownsRow_below HO4.out k5)
      have HT5 := hide (fun x hx => (HT4.out x hx).stays (Stay.of_below k5))
      have HK5 := hide (HK4.out.trans (Keep.of_below k5))
      have z5 := k5.size
      clear h5 hP5 k5 H4 HP4 HO4 HT4 HK4 hf
      go_wp2_with fail
      refine hm.mono ?_
      clear hm
      rintro e w6 ⟨u, rfl, t6, h6, k6⟩
      obtain ⟨kv, rfl⟩ := t6.ptr
      rw [show pfV ⟨gn, ga, gh, gx, gs, gt⟩ (.pointer (some ⟨kv, 0, none⟩)) = #[.string gn, .string ga, .string gh, .string gx, .string gs, .pointer (some ⟨kv, 0, none⟩)] from rfl]
      have hO6 := ownsRow_stay HO5.out (H5.out.stay k6)
      have HP6 := hide (HP5.out.keep H5.out k6)
      have HT6 := hide (fun x hx => (HT5.out x hx).stays (H5.out.stay k6))
      have HK6 := hide (HK5.out.trans k6)
      have H6 := hide h6
      have HU6 := hide (t6.mono (C := w.heap.size) (by omega))
      have z6 := HK6.out.size
      have HLO := hide (fun k hk => (hO6.lt k hk).1)
      clear h6 k6 HO5 HT5 HK5 H5 HP5 t6
      go_wp2_with (at_builtin; refine wpList_append_own _ rfl _ _ 158 rfl w.heap.size 180 i0 _ 6 88 Tryz.underlying158 hi hz0 hz1 hz2 rfl (by decide) _ _ _ rfl (hO6.alloc _) ⟨w6.heap.size, 0, none⟩ 1 1 [.string gn, .string ga, .string gh, .string gx, .string gs, .pointer (some ⟨kv, 0, none⟩)] rfl rfl (cells_new' _ _ _ _ (by simp)) (one6 rfl rfl rfl rfl rfl rfl) (by unfold maxLen; omega) (by omega) (by simp; omega) ?_; intro v' w7 hown' hgrow _)
      have h7 := (H6.out.alloc _).grown hgrow HLO.out hlt hgl
      have hP7 := (HP6.out.alloc _).grown hgrow HLO.out hpl
      have hK7 := (HK6.out.alloc _).grown hgrow (fun k hk => HLO.out k hk)
      have hS7 : Stay 257 w.heap.size w6 w7 := (Stay.alloc _).trans (Stay.grown hgrow (hO6.alloc _) rfl (by decide))
      have HX := hide (show PS w7 b G s3 ∧ PP w7 p b S ∧ w7.ownsRow w.heap.size 180 6 v' (L ++ [((⟨gn, ga, gh, gx, gs, gt⟩ : PFld), Value.pointer (some ⟨kv, 0, none⟩))]).length (pfsV (L ++ [((⟨gn, ga, gh, gx, gs, gt⟩ : PFld), Value.pointer (some ⟨kv, 0, none⟩))])) ∧ (∀ x ∈ L ++ [((⟨gn, ga, gh, gx, gs, gt⟩ : PFld), Value.pointer (some ⟨kv, 0, none⟩))], TyAt w7 w.heap.size x.2 x.1.ty) ∧ Keep b w w7 from ⟨h7, hP7, by rw [pfsV_snoc, List.length_append]; exact hown', by
        intro x hx
        rcases List.mem_append.1 hx with hx | hx
        · exact (HT6.out x hx).stays hS7
        · rw [List.mem_singleton] at hx; subst hx; exact HU6.out.stays hS7, hK7⟩)
      clear h7 hP7 hK7 hS7 hown' hgrow hO6 HP6 HT6 HK6 H6 HU6 HLO
      go_roundg (ln s3)
      case measure => omega
      case rel => exact ⟨_, s3, f', Nat.le_refl _, by omega, HX.out.1, HX.out.2.1, HX.out.2.2.1, HX.out.2.2.2.1, by simp; omega, HX.out.2.2.2.2, by rw [HE.out]; simp⟩
end Go.Proofs.YtpggfgjongkihaaGreat
namespace Go.Proofs.YtpggfgjongkihaaGreat
open Go.RowKit
def wordS (x : ByteArray) (s : St) : St := if x = bTrue then s else if x = bFalse then s else if x = bNull then s else none
def pVal (s : St) : St := if (hd s).k = 2 then tl s else if (hd s).k = 3 then tl s else if (hd s).k = 1 then wordS (hd s).s (tl s) else none
def pValue (s : St) : St := if isW s bViewer = true then tl s else pVal s
def isVal (v : Value) : Prop := ∃ (a c : Int) (d : ByteArray), v = .agg #[.int .i64 a, .int .i64 c, .string d]
set_option maxHeartbeats 1000000 in
set_option maxRecDepth 100000 in
theorem word_any (w : World) (p b S G : Nat) (s : St) (x : ByteArray) (hP : PP w p b S) (h : PS w b G s) :
    Calls Tryz.prog 216 #[.pointer (some ⟨b, 0, none⟩), .string x] w fun e w' => ∃ v, e = .returned v ∧ isVal v ∧ PS w' b G (wordS x s) ∧ Keep b w w' := by
  have HB := hide (And.intro h (Keep.refl b w))
  have L1 := beq_lit x [116, 114, 117, 101]
  have L2 := beq_lit x [102, 97, 108, 115, 101]
  have L3 := beq_lit x [110, 117, 108, 108]
  have hlt := h.lt
  have hgl := h.glt
  have hpl := hP.lt
  have H0 := hide h
  have HP0 := hide hP
  have HK0 := hide (Keep.refl b w)
  have c0 := hP.c0
  clear h hP
  have H1 := hide (H0.out.alloc (.cells #[.int .i64 0, .int .i64 0, .string ⟨#[]⟩] 168))
  have HP1 := hide (HP0.out.alloc (.cells #[.int .i64 0, .int .i64 0, .string ⟨#[]⟩] 168))
  have HK1 := hide (HK0.out.alloc (.cells #[.int .i64 0, .int .i64 0, .string ⟨#[]⟩] 168))
  have HN1R := hide (show (w.alloc (.cells #[.int .i64 0, .int .i64 0, .string ⟨#[]⟩] 168)).heap[w.heap.size]? = some (.cells #[.int .i64 0, .int .i64 0, .string ⟨#[]⟩] 168 (0, 0)) from heap_alloc_new _ _)
  clear H0 HP0 HK0
  have c1 := HP1.out.c0
  by_cases e1 : x = bTrue
  · skip
    rw [show wordS x s = s from by unfold wordS; rw [if_pos e1]]
    rw [decide_eq_true (show x = ofB _ from e1)] at L1
    clear e1
    go_enter Tryz.func216, Tryz.ntmps216
    go_wp2_with fail
    exact bodyPost_ret (v := .agg #[.int .i64 3, .int .i64 0, .string ⟨#[]⟩]) (by simp [results, Tryz.results216, go_sem]) rfl ⟨_, rfl, ⟨_, _, _, rfl⟩, HB.out.1.alloc _, HB.out.2.alloc _⟩
  by_cases e2 : x = bFalse
  · skip
    rw [show wordS x s = s from by unfold wordS; rw [if_neg e1, if_pos e2]]
    rw [decide_eq_false (show ¬ x = ofB _ from e1)] at L1
    rw [decide_eq_true (show x = ofB _ from e2)] at L2
    clear e1 e2
    go_enter Tryz.func216, Tryz.ntmps216
    go_wp2_with fail
    exact bodyPost_ret (v := .agg #[.int .i64 4, .int .i64 0, .string ⟨#[]⟩]) (by simp [results, Tryz.results216, go_sem]) rfl ⟨_, rfl, ⟨_, _, _, rfl⟩, HB.out.1.alloc _, HB.out.2.alloc _⟩
  by_cases e3 : x = bNull
  · skip
    rw [show wordS x s = s from by unfold wordS; rw [if_neg e1, if_neg e2, if_pos e3]]
    rw [decide_eq_false (show ¬ x = ofB _ from e1)] at L1
    rw [decide_eq_false (show ¬ x = ofB _ from e2)] at L2
    rw [decide_eq_true (show x = ofB _ from e3)] at L3
    clear e1 e2 e3
    go_enter Tryz.func216, Tryz.ntmps216
    go_wp2_with fail
    exact bodyPost_ret (v := .agg #[.int .i64 0, .int .i64 0, .string ⟨#[]⟩]) (by simp [results, Tryz.results216, go_sem]) rfl ⟨_, rfl, ⟨_, _, _, rfl⟩, HB.out.1.alloc _, HB.out.2.alloc _⟩
  rw [show wordS x s = none from by unfold wordS; rw [if_neg e1, if_neg e2, if_neg e3]]
  rw [decide_eq_false (show ¬ x = ofB _ from e1)] at L1
  rw [decide_eq_false (show ¬ x = ofB _ from e2)] at L2
  rw [decide_eq_false (show ¬ x = ofB _ from e3)] at L3
  clear e1 e2 e3
  go_enter Tryz.func216, Tryz.ntmps216
  have hx := fail_any (w.alloc (.cells #[.int .i64 0, .int .i64 0, .string ⟨#[]⟩] 168)) b G s H1.out
  go_wp2_with fail
  refine hx.mono ?_
  clear hx
  rintro e w2 ⟨rfl, h2, k2⟩
  have HP2 := hide (HP1.out.keep H1.out k2)
  have HK2 := hide (HK1.out.trans k2)
  have HN2R := hide (k2.at HN1R.out (by omega))
  have z2R := lt_of_block HN2R.out
  have H2 := hide h2
  have c2 := HP2.out.c0
  have zw2 := HK2.out.size
  have zp2 := HP2.out.lt
  have zb2 := H2.out.lt
  clear H1 HP1 HK1 HN1R h2 k2
  have d3 : w2.cell? ⟨w.heap.size, 0, none⟩ = some (.int .i64 0) := cell_of_block HN2R.out 0
  have d4 : w2.cell? ⟨w.heap.size, 1, none⟩ = some (.int .i64 0) := cell_of_block HN2R.out 1
  have d5 : w2.cell? ⟨w.heap.size, 2, none⟩ = some (.string ⟨#[]⟩) := cell_of_block HN2R.out 2
  have f6 := frozen_of_block HN2R.out 0
  have f7 := frozen_of_block HN2R.out 1
  have f8 := frozen_of_block HN2R.out 2
  have H9 := hide (H2.out.set (F := w.heap.size) (by omega) (by omega) 0 (.int .i64 0))
  have HP9 := hide (HP2.out.set HN2R.out (by decide) 0 (.int .i64 0))
  have HK9 := hide (HK2.out.setNew ⟨w.heap.size, 0, none⟩ (by (try simp only []); omega) (.int .i64 0))
  have HN9R := hide (show (w2.setCell ⟨w.heap.size, 0, none⟩ (.int .i64 0)).heap[w.heap.size]? = some (.cells #[.int .i64 0, .int .i64 0, .string ⟨#[]⟩] 168 (0, 0)) from setCell_block HN2R.out 0 (.int .i64 0))
  clear H2 HP2 HK2 HN2R
  have H10 := hide (H9.out.set (F := w.heap.size) (by omega) (by omega) 1 (.int .i64 0))
  have HP10 := hide (HP9.out.set HN9R.out (by decide) 1 (.int .i64 0))
  have HK10 := hide (HK9.out.setNew ⟨w.heap.size, 1, none⟩ (by (try simp only []); omega) (.int .i64 0))
  have HN10R := hide (show ((w2.setCell ⟨w.heap.size, 0, none⟩ (.int .i64 0)).setCell ⟨w.heap.size, 1, none⟩ (.int .i64 0)).heap[w.heap.size]? = some (.cells #[.int .i64 0, .int .i64 0, .string ⟨#[]⟩] 168 (0, 0)) from setCell_block HN9R.out 1 (.int .i64 0))
  clear H9 HP9 HK9 HN9R
  have H11 := hide (H10.out.set (F := w.heap.size) (by omega) (by omega) 2 (.string ⟨#[]⟩))
  have HP11 := hide (HP10.out.set HN10R.out (by decide) 2 (.string ⟨#[]⟩))
  have HK11 := hide (HK10.out.setNew ⟨w.heap.size, 2, none⟩ (by (try simp only []); omega) (.string ⟨#[]⟩))
  have HN11R := hide (show (((w2.setCell ⟨w.heap.size, 0, none⟩ (.int .i64 0)).setCell ⟨w.heap.size, 1, none⟩ (.int .i64 0)).setCell ⟨w.heap.size, 2, none⟩ (.string ⟨#[]⟩)).heap[w.heap.size]? = some (.cells #[.int .i64 0, .int .i64 0, .string ⟨#[]⟩] 168 (0, 0)) from setCell_block HN10R.out 2 (.string ⟨#[]⟩))
  clear H10 HP10 HK10 HN10R
  go_wp2_with fail
  exact bodyPost_ret (v := .agg #[.int .i64 0, .int .i64 0, .string ⟨#[]⟩]) (by simp [results, Tryz.results216, go_sem, *]) rfl ⟨_, rfl, ⟨_, _, _, rfl⟩, H11.out, HK11.out⟩
set_option maxHeartbeats 1000000 in
set_option maxRecDepth 100000 in
theorem valueRead_any (w : World) (p b S G : Nat) (s : St) (hP : PP w p b S) (h : PS w b G s) :
    Calls Tryz.prog 207 #[.pointer (some ⟨b, 0, none⟩)] w fun e w' => ∃ v, e = .returned v ∧ isVal v ∧ PS w' b G (pVal s) ∧ Keep b w w' := by
  have hlt := h.lt
  have hgl := h.glt
  have hpl := hP.lt
  have H0 := hide h
  have HP0 := hide hP
  have HK0 := hide (Keep.refl b w)
  have c0 := hP.c0
  clear h hP
  have H1 := hide (H0.out.alloc (.cells #[.int .i64 0, .int .i64 0, .string ⟨#[]⟩] 168))
  have HP1 := hide (HP0.out.alloc (.cells #[.int .i64 0, .int .i64 0, .string ⟨#[]⟩] 168))
  have HK1 := hide (HK0.out.alloc (.cells #[.int .i64 0, .int .i64 0, .string ⟨#[]⟩] 168))
  have HN1R := hide (show (w.alloc (.cells #[.int .i64 0, .int .i64 0, .string ⟨#[]⟩] 168)).heap[w.heap.size]? = some (.cells #[.int .i64 0, .int .i64 0, .string ⟨#[]⟩] 168 (0, 0)) from heap_alloc_new _ _)
  clear H0 HP0 HK0
  have c1 := HP1.out.c0
  have hc := nextP_any (w.alloc (.cells #[.int .i64 0, .int .i64 0, .string ⟨#[]⟩] 168)) b G s H1.out
  have HQ := hide (show pVal s = (if (hd s).k = 2 then tl s else if (hd s).k = 3 then tl s else if (hd s).k = 1 then wordS (hd s).s (tl s) else none) from rfl)
  generalize pVal s = FF at *
  generalize (hd s).k = kk at *
  generalize (hd s).s = yy at *
  generalize (hd s).n = nn at *
  by_cases e1 : kk = 2
  · skip
    rw [if_pos e1] at HQ
    have T1 : ((kk : Int) == 2) = true := by simp; omega
    clear e1
    go_enter Tryz.func207, Tryz.ntmps207
    go_wp2_with fail
    refine hc.mono ?_
    clear hc
    rintro e w2 ⟨rfl, h2, k2⟩
    have HP2 := hide (HP1.out.keep H1.out k2)
    have HK2 := hide (HK1.out.trans k2)
    have HN2R := hide (k2.at HN1R.out (by omega))
    have z2R := lt_of_block HN2R.out
    have H2 := hide h2
    have c2 := HP2.out.c0
    have zw2 := HK2.out.size
    have zp2 := HP2.out.lt
    have zb2 := H2.out.lt
    clear H1 HP1 HK1 HN1R h2 k2
    have d3 : w2.cell? ⟨w.heap.size, 0, none⟩ = some (.int .i64 0) := cell_of_block HN2R.out 0
    have d4 : w2.cell? ⟨w.heap.size, 1, none⟩ = some (.int .i64 0) := cell_of_block HN2R.out 1
    have d5 : w2.cell? ⟨w.heap.size, 2, none⟩ = some (.string ⟨#[]⟩) := cell_of_block HN2R.out 2
    have f6 := frozen_of_block HN2R.out 0
    have f7 := frozen_of_block HN2R.out 1
    have f8 := frozen_of_block HN2R.out 2
    have H9 := hide (H2.out.set (F := w.heap.size) (by omega) (by omega) 0 (.int .i64 1))
    have HP9 := hide (HP2.out.set HN2R.out (by decide) 0 (.int .i64 1))
    have HK9 := hide (HK2.out.setNew ⟨w.heap.size, 0, none⟩ (by (try simp only []); omega) (.int .i64 1))
    have HN9R := hide (show (w2.setCell ⟨w.heap.size, 0, none⟩ (.int .i64 1)).heap[w.heap.size]? = some (.cells #[.int .i64 1, .int .i64 0, .string ⟨#[]⟩] 168 (0, 0)) from setCell_block HN2R.out 0 (.int .i64 1))
    clear H2 HP2 HK2 HN2R
    have H10 := hide (H9.out.set (F := w.heap.size) (by omega) (by omega) 1 (.int .i64 nn))
    have HP10 := hide (HP9.out.set HN9R.out (by decide) 1 (.int .i64 nn))
    have HK10 := hide (HK9.out.setNew ⟨w.heap.size, 1, none⟩ (by (try simp only []); omega) (.int .i64 nn))
    have HN10R := hide (show ((w2.setCell ⟨w.heap.size, 0, none⟩ (.int .i64 1)).setCell ⟨w.heap.size, 1, none⟩ (.int .i64 nn)).heap[w.heap.size]? = some (.cells #[.int .i64 1, .int .i64 nn, .string ⟨#[]⟩] 168 (0, 0)) from setCell_block HN9R.out 1 (.int .i64 nn))
    clear H9 HP9 HK9 HN9R
    have H11 := hide (H10.out.set (F := w.heap.size) (by omega) (by omega) 2 (.string ⟨#[]⟩))
    have HP11 := hide (HP10.out.set HN10R.out (by decide) 2 (.string ⟨#[]⟩))
    have HK11 := hide (HK10.out.setNew ⟨w.heap.size, 2, none⟩ (by (try simp only []); omega) (.string ⟨#[]⟩))
    have HN11R := hide (show (((w2.setCell ⟨w.heap.size, 0, none⟩ (.int .i64 1)).setCell ⟨w.heap.size, 1, none⟩ (.int .i64 nn)).setCell ⟨w.heap.size, 2, none⟩ (.string ⟨#[]⟩)).heap[w.heap.size]? = some (.cells #[.int .i64 1, .int .i64 nn, .string ⟨#[]⟩] 168 (0, 0)) from setCell_block HN10R.out 2 (.string ⟨#[]⟩))
    clear H10 HP10 HK10 HN10R
    have H12 := hide (H11.out.alloc (.cells #[.int .i64 kk, .string yy, .int .i64 nn] 223))
    have HP12 := hide (HP11.out.alloc (.cells #[.int .i64 kk, .string yy, .int .i64 nn] 223))
    have HK12 := hide (HK11.out.alloc (.cells #[.int .i64 kk, .string yy, .int .i64 nn] 223))
    have HN12R := hide (show ((((w2.setCell ⟨w.heap.size, 0, none⟩ (.int .i64 1)).setCell ⟨w.heap.size, 1, none⟩ (.int .i64 nn)).setCell ⟨w.heap.size, 2, none⟩ (.string ⟨#[]⟩)).alloc (.cells #[.int .i64 kk, .string yy, .int .i64 nn] 223)).heap[w.heap.size]? = some (.cells #[.int .i64 1, .int .i64 nn, .string ⟨#[]⟩] 168 (0, 0)) from by rw [alloc_other _ _ _ (lt_of_block HN11R.out)]; exact HN11R.out)
    clear H11 HP11 HK11 HN11R
    have c12 := HP12.out.c0
    go_wp2_with fail
    rw [HQ.out]
    exact bodyPost_ret (v := .agg #[.int .i64 1, .int .i64 nn, .string ⟨#[]⟩]) (by simp [results, Tryz.results207, go_sem, *]) rfl ⟨_, rfl, ⟨_, _, _, rfl⟩, H12.out, HK12.out⟩
  by_cases e2 : kk = 3
  · skip
    rw [if_neg e1, if_pos e2] at HQ
    have T1 : ((kk : Int) == 2) = false := by simp; omega
    have T2 : ((kk : Int) == 3) = true := by simp; omega
    clear e1 e2
    go_enter Tryz.func207, Tryz.ntmps207
    go_wp2_with fail
    refine hc.mono ?_
    clear hc
    rintro e w2 ⟨rfl, h2, k2⟩
    have HP2 := hide (HP1.out.keep H1.out k2)
    have HK2 := hide (HK1.out.trans k2)
    have HN2R := hide (k2.at HN1R.out (by omega))
    have z2R := lt_of_block HN2R.out
    have H2 := hide h2
    have c2 := HP2.out.c0
    have zw2 := HK2.out.size
    have zp2 := HP2.out.lt
    have zb2 := H2.out.lt
    clear H1 HP1 HK1 HN1R h2 k2
    have d3 : w2.cell? ⟨w.heap.size, 0, none⟩ = some (.int .i64 0) := cell_of_block HN2R.out 0
    have d4 : w2.cell? ⟨w.heap.size, 1, none⟩ = some (.int .i64 0) := cell_of_block HN2R.out 1
    have d5 : w2.cell? ⟨w.heap.size, 2, none⟩ = some (.string ⟨#[]⟩) := cell_of_block HN2R.out 2
    have f6 := frozen_of_block HN2R.out 0
    have f7 := frozen_of_block HN2R.out 1
    have f8 := frozen_of_block HN2R.out 2
    have H9 := hide (H2.out.set (F := w.heap.size) (by omega) (by omega) 0 (.int .i64 2))
    have HP9 := hide (HP2.out.set HN2R.out (by decide) 0 (.int .i64 2))
    have HK9 := hide (HK2.out.setNew ⟨w.heap.size, 0, none⟩ (by (try simp only []); omega) (.int .i64 2))
    have HN9R := hide (show (w2.setCell ⟨w.heap.size, 0, none⟩ (.int .i64 2)).heap[w.heap.size]? = some (.cells #[.int .i64 2, .int .i64 0, .string ⟨#[]⟩] 168 (0, 0)) from setCell_block HN2R.out 0 (.int .i64 2))
    clear H2 HP2 HK2 HN2R
    have H10 := hide (H9.out.set (F := w.heap.size) (by omega) (by omega) 1 (.int .i64 0))
    have HP10 := hide (HP9.out.set HN9R.out (by decide) 1 (.int .i64 0))
    have HK10 := hide (HK9.out.setNew ⟨w.heap.size, 1, none⟩ (by (try simp only []); omega) (.int .i64 0))
    have HN10R := hide (show ((w2.setCell ⟨w.heap.size, 0, none⟩ (.int .i64 2)).setCell ⟨w.heap.size, 1, none⟩ (.int .i64 0)).heap[w.heap.size]? = some (.cells #[.int .i64 2, .int .i64 0, .string ⟨#[]⟩] 168 (0, 0)) from setCell_block HN9R.out 1 (.int .i64 0))
    clear H9 HP9 HK9 HN9R
    have H11 := hide (H10.out.set (F := w.heap.size) (by omega) (by omega) 2 (.string yy))
    have HP11 := hide (HP10.out.set HN10R.out (by decide) 2 (.string yy))
    have HK11 := hide (HK10.out.setNew ⟨w.heap.size, 2, none⟩ (by (try simp only []); omega) (.string yy))
    have HN11R := hide (show (((w2.setCell ⟨w.heap.size, 0, none⟩ (.int .i64 2)).setCell ⟨w.heap.size, 1, none⟩ (.int .i64 0)).setCell ⟨w.heap.size, 2, none⟩ (.string yy)).heap[w.heap.size]? = some (.cells #[.int .i64 2, .int .i64 0, .string yy] 168 (0, 0)) from setCell_block HN10R.out 2 (.string yy))
    clear H10 HP10 HK10 HN10R
    have H12 := hide (H11.out.alloc (.cells #[.int .i64 kk, .string yy, .int .i64 nn] 223))
    have HP12 := hide (HP11.out.alloc (.cells #[.int .i64 kk, .string yy, .int .i64 nn] 223))
    have HK12 := hide (HK11.out.alloc (.cells #[.int .i64 kk, .string yy, .int .i64 nn] 223))
    have HN12R := hide (show ((((w2.setCell ⟨w.heap.size, 0, none⟩ (.int .i64 2)).setCell ⟨w.heap.size, 1, none⟩ (.int .i64 0)).setCell ⟨w.heap.size, 2, none⟩ (.string yy)).alloc (.cells #[.int .i64 kk, .string yy, .int .i64 nn] 223)).heap[w.heap.size]? = some (.cells #[.int .i64 2, .int .i64 0, .string yy] 168 (0, 0)) from by rw [alloc_other _ _ _ (lt_of_block HN11R.out)]; exact HN11R.out)
    clear H11 HP11 HK11 HN11R
    have c12 := HP12.out.c0
    go_wp2_with fail
    rw [HQ.out]
    exact bodyPost_ret (v := .agg #[.int .i64 2, .int .i64 0, .string yy]) (by simp [results, Tryz.results207, go_sem, *]) rfl ⟨_, rfl, ⟨_, _, _, rfl⟩, H12.out, HK12.out⟩
  by_cases e3 : kk = 1
  · skip
    rw [if_neg e1, if_neg e2, if_pos e3] at HQ
    have T1 : ((kk : Int) == 2) = false := by simp; omega
    have T2 : ((kk : Int) == 3) = false := by simp; omega
    have T3 : ((kk : Int) == 1) = true := by simp; omega
    clear e1 e2 e3
    go_enter Tryz.func207, Tryz.ntmps207
    go_wp2_with fail
    refine hc.mono ?_
    clear hc
    rintro e w2 ⟨rfl, h2, k2⟩
    have HP2 := hide (HP1.out.keep H1.out k2)
    have HK2 := hide (HK1.out.trans k2)
    have HN2R := hide (k2.at HN1R.out (by omega))
    have z2R := lt_of_block HN2R.out
    have H2 := hide h2
    have c2 := HP2.out.c0
    have zw2 := HK2.out.size
    have zp2 := HP2.out.lt
    have zb2 := H2.out.lt
    clear H1 HP1 HK1 HN1R h2 k2
    have H3 := hide (H2.out.alloc (.cells #[.int .i64 kk, .string yy, .int .i64 nn] 223))
    have HP3 := hide (HP2.out.alloc (.cells #[.int .i64 kk, .string yy, .int .i64 nn] 223))
    have HK3 := hide (HK2.out.alloc (.cells #[.int .i64 kk, .string yy, .int .i64 nn] 223))
    have HN3R := hide (show (w2.alloc (.cells #[.int .i64 kk, .string yy, .int .i64 nn] 223)).heap[w.heap.size]? = some (.cells #[.int .i64 0, .int .i64 0, .string ⟨#[]⟩] 168 (0, 0)) from by rw [alloc_other _ _ _ (lt_of_block HN2R.out)]; exact HN2R.out)
    have HN3T := hide (show (w2.alloc (.cells #[.int .i64 kk, .string yy, .int .i64 nn] 223)).heap[w2.heap.size]? = some (.cells #[.int .i64 kk, .string yy, .int .i64 nn] 223 (0, 0)) from heap_alloc_new _ _)
    clear H2 HP2 HK2 HN2R
    have c3 := HP3.out.c0
    have hx := word_any (w2.alloc (.cells #[.int .i64 kk, .string yy, .int .i64 nn] 223)) p b S G (tl s) yy HP3.out H3.out
    go_wp2_with fail
    refine hx.mono ?_
    clear hx
    rintro e w4 ⟨v, rfl, ⟨va, vc, vd, rfl⟩, h4, k4⟩
    have HP4 := hide (HP3.out.keep H3.out k4)
    have HK4 := hide (HK3.out.trans k4)
    have HN4R := hide (k4.at HN3R.out (by omega))
    have z4R := lt_of_block HN4R.out
    have HN4T := hide (k4.at HN3T.out (by omega))
    have z4T := lt_of_block HN4T.out
    have H4 := hide h4
    have c4 := HP4.out.c0
    have zw4 := HK4.out.size
    have zp4 := HP4.out.lt
    have zb4 := H4.out.lt
    clear H3 HP3 HK3 HN3R HN3T h4 k4
    have d5 : w4.cell? ⟨w.heap.size, 0, none⟩ = some (.int .i64 0) := cell_of_block HN4R.out 0
    have d6 : w4.cell? ⟨w.heap.size, 1, none⟩ = some (.int .i64 0) := cell_of_block HN4R.out 1
    have d7 : w4.cell? ⟨w.heap.size, 2, none⟩ = some (.string ⟨#[]⟩) := cell_of_block HN4R.out 2
    have f8 := frozen_of_block HN4R.out 0
    have f9 := frozen_of_block HN4R.out 1
    have f10 := frozen_of_block HN4R.out 2
    have H11 := hide (H4.out.set (F := w.heap.size) (by omega) (by omega) 0 (.int .i64 va))
    have HP11 := hide (HP4.out.set HN4R.out (by decide) 0 (.int .i64 va))
    have HK11 := hide (HK4.out.setNew ⟨w.heap.size, 0, none⟩ (by (try simp only []); omega) (.int .i64 va))
    have HN11R := hide (show (w4.setCell ⟨w.heap.size, 0, none⟩ (.int .i64 va)).heap[w.heap.size]? = some (.cells #[.int .i64 va, .int .i64 0, .string ⟨#[]⟩] 168 (0, 0)) from setCell_block HN4R.out 0 (.int .i64 va))
    have HN11T := hide (set_other_at HN4T.out (show w2.heap.size ≠ w.heap.size by omega) 0 (.int .i64 va))
    clear H4 HP4 HK4 HN4R HN4T
    have H12 := hide (H11.out.set (F := w.heap.size) (by omega) (by omega) 1 (.int .i64 vc))
    have HP12 := hide (HP11.out.set HN11R.out (by decide) 1 (.int .i64 vc))
    have HK12 := hide (HK11.out.setNew ⟨w.heap.size, 1, none⟩ (by (try simp only []); omega) (.int .i64 vc))
    have HN12R := hide (show ((w4.setCell ⟨w.heap.size, 0, none⟩ (.int .i64 va)).setCell ⟨w.heap.size, 1, none⟩ (.int .i64 vc)).heap[w.heap.size]? = some (.cells #[.int .i64 va, .int .i64 vc, .string ⟨#[]⟩] 168 (0, 0)) from setCell_block HN11R.out 1 (.int .i64 vc))
    have HN12T := hide (set_other_at HN11T.out (show w2.heap.size ≠ w.heap.size by omega) 1 (.int .i64 vc))
    clear H11 HP11 HK11 HN11R HN11T
    have H13 := hide (H12.out.set (F := w.heap.size) (by omega) (by omega) 2 (.string vd))
    have HP13 := hide (HP12.out.set HN12R.out (by decide) 2 (.string vd))
    have HK13 := hide (HK12.out.setNew ⟨w.heap.size, 2, none⟩ (by (try simp only []); omega) (.string vd))
    have HN13R := hide (show (((w4.setCell ⟨w.heap.size, 0, none⟩ (.int .i64 va)).setCell ⟨w.heap.size, 1, none⟩ (.int .i64 vc)).setCell ⟨w.heap.size, 2, none⟩ (.string vd)).heap[w.heap.size]? = some (.cells #[.int .i64 va, .int .i64 vc, .string vd] 168 (0, 0)) from setCell_block HN12R.out 2 (.string vd))
    have HN13T := hide (set_other_at HN12T.out (show w2.heap.size ≠ w.heap.size by omega) 2 (.string vd))
    clear H12 HP12 HK12 HN12R HN12T
    go_wp2_with fail
    rw [HQ.out]
    exact bodyPost_ret (v := .agg #[.int .i64 va, .int .i64 vc, .string vd]) (by simp [results, Tryz.results207, go_sem, *]) rfl ⟨_, rfl, ⟨_, _, _, rfl⟩, H13.out, HK13.out⟩
  rw [if_neg e1, if_neg e2, if_neg e3] at HQ
  have T1 : ((kk : Int) == 2) = false := by simp; omega
  have T2 : ((kk : Int) == 3) = false := by simp; omega
  have T3 : ((kk : Int) == 1) = false := by simp; omega
  clear e1 e2 e3
  go_enter Tryz.func207, Tryz.ntmps207
  go_wp2_with fail
  refine hc.mono ?_
  clear hc
  rintro e w2 ⟨rfl, h2, k2⟩
  have HP2 := hide (HP1.out.keep H1.out k2)
  have HK2 := hide (HK1.out.trans k2)
  have HN2R := hide (k2.at HN1R.out (by omega))
  have z2R := lt_of_block HN2R.out
  have H2 := hide h2
  have c2 := HP2.out.c0
  have zw2 := HK2.out.size
  have zp2 := HP2.out.lt
  have zb2 := H2.out.lt
  clear H1 HP1 HK1 HN1R h2 k2
  have H3 := hide (H2.out.alloc (.cells #[.int .i64 kk, .string yy, .int .i64 nn] 223))
  have HP3 := hide (HP2.out.alloc (.cells #[.int .i64 kk, .string yy, .int .i64 nn] 223))
  have HK3 := hide (HK2.out.alloc (.cells #[.int .i64 kk, .string yy, .int .i64 nn] 223))
  have HN3R := hide (show (w2.alloc (.cells #[.int .i64 kk, .string yy, .int .i64 nn] 223)).heap[w.heap.size]? = some (.cells #[.int .i64 0, .int .i64 0, .string ⟨#[]⟩] 168 (0, 0)) from by rw [alloc_other _ _ _ (lt_of_block HN2R.out)]; exact HN2R.out)
  have HN3T := hide (show (w2.alloc (.cells #[.int .i64 kk, .string yy, .int .i64 nn] 223)).heap[w2.heap.size]? = some (.cells #[.int .i64 kk, .string yy, .int .i64 nn] 223 (0, 0)) from heap_alloc_new _ _)
  clear H2 HP2 HK2 HN2R
  have c3 := HP3.out.c0
  have hx := fail_any (w2.alloc (.cells #[.int .i64 kk, .string yy, .int .i64 nn] 223)) b G (tl s) H3.out
  go_wp2_with fail
  refine hx.mono ?_
  clear hx
  rintro e w4 ⟨rfl, h4, k4⟩
  have HP4 := hide (HP3.out.keep H3.out k4)
  have HK4 := hide (HK3.out.trans k4)
  have HN4R := hide (k4.at HN3R.out (by omega))
  have z4R := lt_of_block HN4R.out
  have HN4T := hide (k4.at HN3T.out (by omega))
  have z4T := lt_of_block HN4T.out
  have H4 := hide h4
  have c4 := HP4.out.c0
  have zw4 := HK4.out.size
  have zp4 := HP4.out.lt
  have zb4 := H4.out.lt
  clear H3 HP3 HK3 HN3R HN3T h4 k4
  have d5 : w4.cell? ⟨w.heap.size, 0, none⟩ = some (.int .i64 0) := cell_of_block HN4R.out 0
  have d6 : w4.cell? ⟨w.heap.size, 1, none⟩ = some (.int .i64 0) := cell_of_block HN4R.out 1
  have d7 : w4.cell? ⟨w.heap.size, 2, none⟩ = some (.string ⟨#[]⟩) := cell_of_block HN4R.out 2
  have f8 := frozen_of_block HN4R.out 0
  have f9 := frozen_of_block HN4R.out 1
  have f10 := frozen_of_block HN4R.out 2
  have H11 := hide (H4.out.set (F := w.heap.size) (by omega) (by omega) 0 (.int .i64 0))
  have HP11 := hide (HP4.out.set HN4R.out (by decide) 0 (.int .i64 0))
  have HK11 := hide (HK4.out.setNew ⟨w.heap.size, 0, none⟩ (by (try simp only []); omega) (.int .i64 0))
  have HN11R := hide (show (w4.setCell ⟨w.heap.size, 0, none⟩ (.int .i64 0)).heap[w.heap.size]? = some (.cells #[.int .i64 0, .int .i64 0, .string ⟨#[]⟩] 168 (0, 0)) from setCell_block HN4R.out 0 (.int .i64 0))
  have HN11T := hide (set_other_at HN4T.out (show w2.heap.size ≠ w.heap.size by omega) 0 (.int .i64 0))
  clear H4 HP4 HK4 HN4R HN4T
  have H12 := hide (H11.out.set (F := w.heap.size) (by omega) (by omega) 1 (.int .i64 0))
  have HP12 := hide (HP11.out.set HN11R.out (by decide) 1 (.int .i64 0))
  have HK12 := hide (HK11.out.setNew ⟨w.heap.size, 1, none⟩ (by (try simp only []); omega) (.int .i64 0))
  have HN12R := hide (show ((w4.setCell ⟨w.heap.size, 0, none⟩ (.int .i64 0)).setCell ⟨w.heap.size, 1, none⟩ (.int .i64 0)).heap[w.heap.size]? = some (.cells #[.int .i64 0, .int .i64 0, .string ⟨#[]⟩] 168 (0, 0)) from setCell_block HN11R.out 1 (.int .i64 0))
  have HN12T := hide (set_other_at HN11T.out (show w2.heap.size ≠ w.heap.size by omega) 1 (.int .i64 0))
  clear H11 HP11 HK11 HN11R HN11T
  have H13 := hide (H12.out.set (F := w.heap.size) (by omega) (by omega) 2 (.string ⟨#[]⟩))
  have HP13 := hide (HP12.out.set HN12R.out (by decide) 2 (.string ⟨#[]⟩))
  have HK13 := hide (HK12.out.setNew ⟨w.heap.size, 2, none⟩ (by (try simp only []); omega) (.string ⟨#[]⟩))
  have HN13R := hide (show (((w4.setCell ⟨w.heap.size, 0, none⟩ (.int .i64 0)).setCell ⟨w.heap.size, 1, none⟩ (.int .i64 0)).setCell ⟨w.heap.size, 2, none⟩ (.string ⟨#[]⟩)).heap[w.heap.size]? = some (.cells #[.int .i64 0, .int .i64 0, .string ⟨#[]⟩] 168 (0, 0)) from setCell_block HN12R.out 2 (.string ⟨#[]⟩))
  have HN13T := hide (set_other_at HN12T.out (show w2.heap.size ≠ w.heap.size by omega) 2 (.string ⟨#[]⟩))
  clear H12 HP12 HK12 HN12R HN12T
  go_wp2_with fail
  rw [HQ.out]
  exact bodyPost_ret (v := .agg #[.int .i64 0, .int .i64 0, .string ⟨#[]⟩]) (by simp [results, Tryz.results207, go_sem, *]) rfl ⟨_, rfl, ⟨_, _, _, rfl⟩, H13.out, HK13.out⟩
set_option maxHeartbeats 1000000 in
set_option maxRecDepth 100000 in
theorem readValue_any (w : World) (p b S G : Nat) (s : St) (hP : PP w p b S) (h : PS w b G s) :
    Calls Tryz.prog 212 #[.pointer (some ⟨p, 0, none⟩)] w fun e w' => ∃ v, e = .returned v ∧ isVal v ∧ PS w' b G (pValue s) ∧ Keep b w w' := by
  have hlt := h.lt
  have hgl := h.glt
  have hpl := hP.lt
  have H0 := hide h
  have HP0 := hide hP
  have HK0 := hide (Keep.refl b w)
  have c0 := hP.c0
  clear h hP
  have H1 := hide (H0.out.alloc (.cells #[.int .i64 0, .int .i64 0, .string ⟨#[]⟩] 168))
  have HP1 := hide (HP0.out.alloc (.cells #[.int .i64 0, .int .i64 0, .string ⟨#[]⟩] 168))
  have HK1 := hide (HK0.out.alloc (.cells #[.int .i64 0, .int .i64 0, .string ⟨#[]⟩] 168))
  have HN1R := hide (show (w.alloc (.cells #[.int .i64 0, .int .i64 0, .string ⟨#[]⟩] 168)).heap[w.heap.size]? = some (.cells #[.int .i64 0, .int .i64 0, .string ⟨#[]⟩] 168 (0, 0)) from heap_alloc_new _ _)
  clear H0 HP0 HK0
  have c1 := HP1.out.c0
  have hc := takeW_any (w.alloc (.cells #[.int .i64 0, .int .i64 0, .string ⟨#[]⟩] 168)) b G s bViewer H1.out
  cases hx : isW s bViewer
  · skip
    rw [show pValue s = pVal s from by unfold pValue; rw [if_neg (by rw [hx]; simp)]]
    rw [hx] at hc
    clear hx
    go_enter Tryz.func212, Tryz.ntmps212
    go_wp2_with fail
    refine hc.mono ?_
    clear hc
    rintro e w2 ⟨rfl, h2, k2⟩
    have HP2 := hide (HP1.out.keep H1.out k2)
    have HK2 := hide (HK1.out.trans k2)
    have HN2R := hide (k2.at HN1R.out (by omega))
    have z2R := lt_of_block HN2R.out
    have H2 := hide h2
    have c2 := HP2.out.c0
    have zw2 := HK2.out.size
    have zp2 := HP2.out.lt
    have zb2 := H2.out.lt
    clear H1 HP1 HK1 HN1R h2 k2
    have hv := valueRead_any w2 p b S G s HP2.out H2.out
    go_wp2_with fail
    refine hv.mono ?_
    clear hv
    rintro e w3 ⟨v, rfl, ⟨va, vc, vd, rfl⟩, h3, k3⟩
    have HP3 := hide (HP2.out.keep H2.out k3)
    have HK3 := hide (HK2.out.trans k3)
    have HN3R := hide (k3.at HN2R.out (by omega))
    have z3R := lt_of_block HN3R.out
    have H3 := hide h3
    have c3 := HP3.out.c0
    have zw3 := HK3.out.size
    have zp3 := HP3.out.lt
    have zb3 := H3.out.lt
    clear H2 HP2 HK2 HN2R h3 k3
    have d4 : w3.cell? ⟨w.heap.size, 0, none⟩ = some (.int .i64 0) := cell_of_block HN3R.out 0
    have d5 : w3.cell? ⟨w.heap.size, 1, none⟩ = some (.int .i64 0) := cell_of_block HN3R.out 1
    have d6 : w3.cell? ⟨w.heap.size, 2, none⟩ = some (.string ⟨#[]⟩) := cell_of_block HN3R.out 2
    have f7 := frozen_of_block HN3R.out 0
    have f8 := frozen_of_block HN3R.out 1
    have f9 := frozen_of_block HN3R.out 2
    have H10 := hide (H3.out.set (F := w.heap.size) (by omega) (by omega) 0 (.int .i64 va))
    have HP10 := hide (HP3.out.set HN3R.out (by decide) 0 (.int .i64 va))
    have HK10 := hide (HK3.out.setNew ⟨w.heap.size, 0, none⟩ (by (try simp only []); omega) (.int .i64 va))
    have HN10R := hide (show (w3.setCell ⟨w.heap.size, 0, none⟩ (.int .i64 va)).heap[w.heap.size]? = some (.cells #[.int .i64 va, .int .i64 0, .string ⟨#[]⟩] 168 (0, 0)) from setCell_block HN3R.out 0 (.int .i64 va))
    clear H3 HP3 HK3 HN3R
    have H11 := hide (H10.out.set (F := w.heap.size) (by omega) (by omega) 1 (.int .i64 vc))
    have HP11 := hide (HP10.out.set HN10R.out (by decide) 1 (.int .i64 vc))
    have HK11 := hide (HK10.out.setNew ⟨w.heap.size, 1, none⟩ (by (try simp only []); omega) (.int .i64 vc))
    have HN11R := hide (show ((w3.setCell ⟨w.heap.size, 0, none⟩ (.int .i64 va)).setCell ⟨w.heap.size, 1, none⟩ (.int .i64 vc)).heap[w.heap.size]? = some (.cells #[.int .i64 va, .int .i64 vc, .string ⟨#[]⟩] 168 (0, 0)) from setCell_block HN10R.out 1 (.int .i64 vc))
    clear H10 HP10 HK10 HN10R
    have H12 := hide (H11.out.set (F := w.heap.size) (by omega) (by omega) 2 (.string vd))
    have HP12 := hide (HP11.out.set HN11R.out (by decide) 2 (.string vd))
    have HK12 := hide (HK11.out.setNew ⟨w.heap.size, 2, none⟩ (by (try simp only []); omega) (.string vd))
    have HN12R := hide (show (((w3.setCell ⟨w.heap.size, 0, none⟩ (.int .i64 va)).setCell ⟨w.heap.size, 1, none⟩ (.int .i64 vc)).setCell ⟨w.heap.size, 2, none⟩ (.string vd)).heap[w.heap.size]? = some (.cells #[.int .i64 va, .int .i64 vc, .string vd] 168 (0, 0)) from setCell_block HN11R.out 2 (.string vd))
    clear H11 HP11 HK11 HN11R
    go_wp2_with fail
    exact bodyPost_ret (v := .agg #[.int .i64 va, .int .i64 vc, .string vd]) (by simp [results, Tryz.results212, go_sem, *]) rfl ⟨_, rfl, ⟨_, _, _, rfl⟩, H12.out, HK12.out⟩
  · skip
    rw [show pValue s = tl s from by unfold pValue; rw [if_pos hx]]
    rw [hx] at hc
    clear hx
    go_enter Tryz.func212, Tryz.ntmps212
    go_wp2_with fail
    refine hc.mono ?_
    clear hc
    rintro e w2 ⟨rfl, h2, k2⟩
    have HP2 := hide (HP1.out.keep H1.out k2)
    have HK2 := hide (HK1.out.trans k2)
    have HN2R := hide (k2.at HN1R.out (by omega))
    have z2R := lt_of_block HN2R.out
    have H2 := hide h2
    have c2 := HP2.out.c0
    have zw2 := HK2.out.size
    have zp2 := HP2.out.lt
    have zb2 := H2.out.lt
    clear H1 HP1 HK1 HN1R h2 k2
    have d3 : w2.cell? ⟨w.heap.size, 0, none⟩ = some (.int .i64 0) := cell_of_block HN2R.out 0
    have d4 : w2.cell? ⟨w.heap.size, 1, none⟩ = some (.int .i64 0) := cell_of_block HN2R.out 1
    have d5 : w2.cell? ⟨w.heap.size, 2, none⟩ = some (.string ⟨#[]⟩) := cell_of_block HN2R.out 2
    have f6 := frozen_of_block HN2R.out 0
    have f7 := frozen_of_block HN2R.out 1
    have f8 := frozen_of_block HN2R.out 2
    have H9 := hide (H2.out.set (F := w.heap.size) (by omega) (by omega) 0 (.int .i64 5))
    have HP9 := hide (HP2.out.set HN2R.out (by decide) 0 (.int .i64 5))
    have HK9 := hide (HK2.out.setNew ⟨w.heap.size, 0, none⟩ (by (try simp only []); omega) (.int .i64 5))
    have HN9R := hide (show (w2.setCell ⟨w.heap.size, 0, none⟩ (.int .i64 5)).heap[w.heap.size]? = some (.cells #[.int .i64 5, .int .i64 0, .string ⟨#[]⟩] 168 (0, 0)) from setCell_block HN2R.out 0 (.int .i64 5))
    clear H2 HP2 HK2 HN2R
    have H10 := hide (H9.out.set (F := w.heap.size) (by omega) (by omega) 1 (.int .i64 0))
    have HP10 := hide (HP9.out.set HN9R.out (by decide) 1 (.int .i64 0))
    have HK10 := hide (HK9.out.setNew ⟨w.heap.size, 1, none⟩ (by (try simp only []); omega) (.int .i64 0))
    have HN10R := hide (show ((w2.setCell ⟨w.heap.size, 0, none⟩ (.int .i64 5)).setCell ⟨w.heap.size, 1, none⟩ (.int .i64 0)).heap[w.heap.size]? = some (.cells #[.int .i64 5, .int .i64 0, .string ⟨#[]⟩] 168 (0, 0)) from setCell_block HN9R.out 1 (.int .i64 0))
    clear H9 HP9 HK9 HN9R
    have H11 := hide (H10.out.set (F := w.heap.size) (by omega) (by omega) 2 (.string ⟨#[]⟩))
    have HP11 := hide (HP10.out.set HN10R.out (by decide) 2 (.string ⟨#[]⟩))
    have HK11 := hide (HK10.out.setNew ⟨w.heap.size, 2, none⟩ (by (try simp only []); omega) (.string ⟨#[]⟩))
    have HN11R := hide (show (((w2.setCell ⟨w.heap.size, 0, none⟩ (.int .i64 5)).setCell ⟨w.heap.size, 1, none⟩ (.int .i64 0)).setCell ⟨w.heap.size, 2, none⟩ (.string ⟨#[]⟩)).heap[w.heap.size]? = some (.cells #[.int .i64 5, .int .i64 0, .string ⟨#[]⟩] 168 (0, 0)) from setCell_block HN10R.out 2 (.string ⟨#[]⟩))
    clear H10 HP10 HK10 HN10R
    go_wp2_with fail
    exact bodyPost_ret (v := .agg #[.int .i64 5, .int .i64 0, .string ⟨#[]⟩]) (by simp [results, Tryz.results212, go_sem, *]) rfl ⟨_, rfl, ⟨_, _, _, rfl⟩, H11.out, HK11.out⟩
end Go.Proofs.YtpggfgjongkihaaGreat
