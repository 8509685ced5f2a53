/- The program's parser: readNamed, readMarkRole, readMark, readArgument. -/
import Derived.Test.YtpggfgjongkihaaGreatM17
import Derived.Test.YtpggfgjongkihaaGreatM09
namespace Go.Proofs.YtpggfgjongkihaaGreat
open Go.RowKit
structure Keep2 (b F : Nat) (w w' : World) : Prop where
  os : w'.os = w.os
  tape : w'.tape = w.tape
  output : w'.output = w.output
  size : w.heap.size ≤ w'.heap.size
  block : ∀ k, k < w.heap.size → k ≠ b → k ≠ F → w'.heap[k]? = w.heap[k]?
theorem Keep2.of {b F : Nat} {w w' : World} (h : Keep b w w') : Keep2 b F w w' := ⟨h.os, h.tape, h.output, h.size, fun k hk hb _ => h.block k hk hb⟩
theorem Keep2.trans {b F : Nat} {x y z : World} (h : Keep2 b F x y) (k : Keep2 b F y z) : Keep2 b F x z :=
  ⟨k.os.trans h.os, k.tape.trans h.tape, k.output.trans h.output, Nat.le_trans h.size k.size, fun i hi hb hf => (k.block i (Nat.lt_of_lt_of_le hi h.size) hb hf).trans (h.block i hi hb hf)⟩
theorem Keep2.setF {b F : Nat} {x y : World} (h : Keep2 b F x y) (i : Nat) (v : Value) : Keep2 b F x (y.setCell ⟨F, i, none⟩ v) :=
  h.trans ⟨rfl, rfl, rfl, by simp [World.setCell], fun k _ _ hf => Below.heap_setCell _ _ _ _ hf⟩
theorem Keep.two {b F : Nat} {x y z : World} (h : Keep b x y) (k : Keep2 b F y z) (hF : x.heap.size ≤ F) : Keep b x z :=
  ⟨k.os.trans h.os, k.tape.trans h.tape, k.output.trans h.output, Nat.le_trans h.size k.size, fun i hi hb => (k.block i (Nat.lt_of_lt_of_le hi h.size) hb (by omega)).trans (h.block i hi hb)⟩
set_option maxHeartbeats 400000 in
theorem readNamed_any (w : World) (p b S G : Nat) (s : St) (hP : PP w p b S) (h : PS w b G s) :
    Calls Tryz.prog 126 #[.pointer (some ⟨p, 0, none⟩)] w fun e w' => e = .returned (.agg #[.string (nm s)]) ∧ PS w' b G (nmT s) ∧ Keep b w w' := by
  have hlt := h.lt
  have hgl := h.glt
  have hpl := hP.lt
  have H0 := hide h
  have HP0 := hide hP
  have HK0 := hide (Keep.refl b w)
  have c0 := hP.c0
  clear h hP
  have H1 := hide (H0.out.alloc (.cells #[.string ⟨#[]⟩] 152))
  have HP1 := hide (HP0.out.alloc (.cells #[.string ⟨#[]⟩] 152))
  have HK1 := hide (HK0.out.alloc (.cells #[.string ⟨#[]⟩] 152))
  have HN1R := hide (show (w.alloc (.cells #[.string ⟨#[]⟩] 152)).heap[w.heap.size]? = some (.cells #[.string ⟨#[]⟩] 152 (0, 0)) from heap_alloc_new _ _)
  clear H0 HP0 HK0
  have c1 := HP1.out.c0
  have hc := needName_any (w.alloc (.cells #[.string ⟨#[]⟩] 152)) b G s H1.out
  go_enter Tryz.func126, Tryz.ntmps126
  go_wp2_with fail
  refine hc.mono ?_
  clear hc
  rintro e w2 ⟨rfl, h2, k2⟩
  have HP2 := hide (HP1.out.keep H1.out k2)
  have HK2 := hide (HK1.out.trans k2)
  have HN2R := hide (k2.at HN1R.out (by omega))
  have z2R := lt_of_block HN2R.out
  have H2 := hide h2
  have c2 := HP2.out.c0
  have zw2 := HK2.out.size
  clear H1 HP1 HK1 HN1R h2 k2
  have d3 : w2.cell? ⟨w.heap.size, 0, none⟩ = some (.string ⟨#[]⟩) := cell_of_block HN2R.out 0
  have f4 := frozen_of_block HN2R.out 0
  have H5 := hide (H2.out.set (F := w.heap.size) (by omega) (by omega) 0 (.string (nm s)))
  have HP5 := hide (HP2.out.set HN2R.out (by decide) 0 (.string (nm s)))
  have HK5 := hide (HK2.out.setNew ⟨w.heap.size, 0, none⟩ (by (try simp only []); omega) (.string (nm s)))
  have HN5R := hide (show (w2.setCell ⟨w.heap.size, 0, none⟩ (.string (nm s))).heap[w.heap.size]? = some (.cells #[.string (nm s)] 152 (0, 0)) from setCell_block HN2R.out 0 (.string (nm s)))
  clear H2 HP2 HK2 HN2R
  go_wp2_with fail
  exact bodyPost_ret (v := .agg #[.string (nm s)]) (by simp [results, Tryz.results126, go_sem, *]) rfl ⟨rfl, H5.out, HK5.out⟩
def pMarkRole (r : ByteArray) (s : St) : ByteArray × St :=
  (nm (mustT (if r = bE then s else none) (isK (if r = bE then s else none) 7)), mustT (nmT (mustT (if r = bE then s else none) (isK (if r = bE then s else none) 7))) (isK (nmT (mustT (if r = bE then s else none) (isK (if r = bE then s else none) 7))) 8))
set_option maxHeartbeats 1000000 in
set_option maxRecDepth 100000 in
theorem readMarkRole_any (w : World) (p b S G F j : Nat) (s : St) (r : ByteArray) (cs : Array Value) (hP : PP w p b S) (h : PS w b G s) (hF : w.heap[F]? = some (.cells cs 180 (0, 0))) (hGF : G ≠ F) (hj : cs[j]? = some (.string r)) :
    Calls Tryz.prog 213 #[.pointer (some ⟨p, 0, none⟩), .pointer (some ⟨F, j, none⟩)] w fun e w' => e = .returned (.tuple #[]) ∧ PS w' b G (pMarkRole r s).2 ∧ w'.heap[F]? = some (.cells (cs.setIfInBounds j (.string (pMarkRole r s).1)) 180 (0, 0)) ∧ Keep2 b F w w' := by
  have hbF : b ≠ F := fun e => by subst e; obtain ⟨c, hc⟩ := h.ty; rw [hc] at hF; cases hF
  have hcell : w.cell? ⟨F, j, none⟩ = some (.string r) := (cell_of_block hF j).trans hj
  have c0 := hP.c0
  have HF := hide hF
  have HJ := hide hj
  have H0 := hide h
  have HP0 := hide hP
  cases he : r.toList.isEmpty
  · have e0 : r ≠ bE := by have := empty_iff r; rw [he] at this; simpa using this
    rw [show pMarkRole r s = (nm (mustT none (isK none 7)), mustT (nmT (mustT none (isK none 7))) (isK (nmT (mustT none (isK none 7))) 8)) from by unfold pMarkRole; rw [if_neg e0]]
    have hc := fail_any w b G s h
    clear hF hj h hP e0
    go_enter Tryz.func213, Tryz.ntmps213
    go_wp2_with fail
    refine hc.mono ?_
    clear hc
    rintro e w1 ⟨rfl, h1, k1⟩
    have HF1 := hide (k1.at HF.out hbF.symm)
    have HP1 := hide (HP0.out.keep H0.out k1)
    have H1 := hide h1
    have K1 := hide (Keep2.of (F := F) k1)
    have c1 := HP1.out.c0
    have hn := need_any w1 b G none 7 h1
    clear h1 k1
    go_wp2_with fail
    refine hn.mono ?_
    clear hn
    rintro e w2 ⟨rfl, h2, k2⟩
    have HF2 := hide (k2.at HF1.out hbF.symm)
    have HP2 := hide (HP1.out.keep H1.out k2)
    have H2 := hide h2
    have K2 := hide (K1.out.trans (Keep2.of (F := F) k2))
    have c2 := HP2.out.c0
    have hm := needName_any w2 b G _ h2
    clear h2 k2
    go_wp2_with fail
    refine hm.mono ?_
    clear hm
    rintro e w3 ⟨rfl, h3, k3⟩
    have HF3 := hide (k3.at HF2.out hbF.symm)
    have HP3 := hide (HP2.out.keep H2.out k3)
    have c3 := HP3.out.c0
    have fz := frozen_of_block HF3.out j
    have d3 : w3.cell? ⟨F, j, none⟩ = some (.string r) := (cell_of_block HF3.out j).trans HJ.out
    have h4 := h3.set hbF hGF j (.string (nm (mustT none (isK none 7))))
    have HF4 := hide (setCell_block HF3.out j (.string (nm (mustT none (isK none 7)))))
    have HP4 := hide (HP3.out.set HF3.out (by decide) j (.string (nm (mustT none (isK none 7)))))
    have c4 := HP4.out.c0
    have K4 := hide ((K2.out.trans (Keep2.of (F := F) k3)).setF j (.string (nm (mustT none (isK none 7)))))
    have hq := need_any _ b G _ 8 h4
    have hpF : p ≠ F := HP3.out.ne HF3.out (by decide)
    clear h3 k3 h4
    go_wp2_with fail
    refine hq.mono ?_
    clear hq
    rintro e w5 ⟨rfl, h5, k5⟩
    have HF5 := hide (k5.at HF4.out hbF.symm)
    have K5 := hide (K4.out.trans (Keep2.of (F := F) k5))
    have H5 := hide h5
    clear h5 k5
    go_wp2_with fail
    go_end0
    exact ⟨rfl, H5.out, HF5.out, K5.out⟩
  · have e0 : r = bE := by have := empty_iff r; rw [he] at this; simpa using this.symm
    rw [show pMarkRole r s = (nm (mustT s (isK s 7)), mustT (nmT (mustT s (isK s 7))) (isK (nmT (mustT s (isK s 7))) 8)) from by unfold pMarkRole; rw [if_pos e0]]
    have HF1 := HF
    have HP1 := HP0
    have H1 := H0
    have K1 := hide (Keep2.of (F := F) (Keep.refl b w))
    have hn := need_any w b G s 7 h
    clear hF hj h hP e0
    go_enter Tryz.func213, Tryz.ntmps213
    go_wp2_with fail
    refine hn.mono ?_
    clear hn
    rintro e w2 ⟨rfl, h2, k2⟩
    have HF2 := hide (k2.at HF1.out hbF.symm)
    have HP2 := hide (HP1.out.keep H1.out k2)
    have H2 := hide h2
    have K2 := hide (K1.out.trans (Keep2.of (F := F) k2))
    have c2 := HP2.out.c0
    have hm := needName_any w2 b G _ h2
    clear h2 k2
    go_wp2_with fail
    refine hm.mono ?_
    clear hm
    rintro e w3 ⟨rfl, h3, k3⟩
    have HF3 := hide (k3.at HF2.out hbF.symm)
    have HP3 := hide (HP2.out.keep H2.out k3)
    have c3 := HP3.out.c0
    have fz := frozen_of_block HF3.out j
    have d3 : w3.cell? ⟨F, j, none⟩ = some (.string r) := (cell_of_block HF3.out j).trans HJ.out
    have h4 := h3.set hbF hGF j (.string (nm (mustT s (isK s 7))))
    have HF4 := hide (setCell_block HF3.out j (.string (nm (mustT s (isK s 7)))))
    have HP4 := hide (HP3.out.set HF3.out (by decide) j (.string (nm (mustT s (isK s 7)))))
    have c4 := HP4.out.c0
    have K4 := hide ((K2.out.trans (Keep2.of (F := F) k3)).setF j (.string (nm (mustT s (isK s 7)))))
    have hq := need_any _ b G _ 8 h4
    have hpF : p ≠ F := HP3.out.ne HF3.out (by decide)
    clear h3 k3 h4
    go_wp2_with fail
    refine hq.mono ?_
    clear hq
    rintro e w5 ⟨rfl, h5, k5⟩
    have HF5 := hide (k5.at HF4.out hbF.symm)
    have K5 := hide (K4.out.trans (Keep2.of (F := F) k5))
    have H5 := hide h5
    clear h5 k5
    go_wp2_with fail
    go_end0
    exact ⟨rfl, H5.out, HF5.out, K5.out⟩
def pMark (a h : ByteArray) (s : St) : (ByteArray × ByteArray) × St :=
  if nm s = bAuth then (((pMarkRole a (nmT s)).1, h), (pMarkRole a (nmT s)).2)
  else if nm s = bHide then ((a, (pMarkRole h (nmT s)).1), (pMarkRole h (nmT s)).2)
  else ((a, h), none)
set_option maxHeartbeats 1000000 in
set_option maxRecDepth 100000 in
theorem readMark_any (w : World) (p b S G F : Nat) (s : St) (n a hh x y : ByteArray) (u : Value) (hP : PP w p b S) (h : PS w b G s) (hF : w.heap[F]? = some (.cells #[.string n, .string a, .string hh, .string x, .string y, u] 180 (0, 0))) (hGF : G ≠ F) :
    Calls Tryz.prog 198 #[.pointer (some ⟨p, 0, none⟩), .pointer (some ⟨F, 0, none⟩)] w fun e w' => e = .returned (.tuple #[]) ∧ PS w' b G (pMark a hh s).2 ∧ w'.heap[F]? = some (.cells #[.string n, .string (pMark a hh s).1.1, .string (pMark a hh s).1.2, .string x, .string y, u] 180 (0, 0)) ∧ Keep2 b F w w' := by
  have hbF : b ≠ F := fun e => by subst e; obtain ⟨c, hc⟩ := h.ty; rw [hc] at hF; cases hF
  have c0 := hP.c0
  have HF := hide hF
  have H0 := hide h
  have HP0 := hide hP
  have hc := needName_any w b G s h
  have L1 := beq_lit (nm s) [97, 117, 116, 104]
  have L2 := beq_lit (nm s) [104, 105, 100, 101]
  clear hF h hP
  by_cases e1 : nm s = bAuth
  · rw [show pMark a hh s = (((pMarkRole a (nmT s)).1, hh), (pMarkRole a (nmT s)).2) from by unfold pMark; rw [if_pos e1]]
    rw [decide_eq_true (show nm s = ofB [97, 117, 116, 104] from e1)] at L1
    clear L2 e1
    go_enter Tryz.func198, Tryz.ntmps198
    go_wp2_with fail
    refine hc.mono ?_
    clear hc
    rintro e w1 ⟨rfl, h1, k1⟩
    have HF1 := hide (k1.at HF.out hbF.symm)
    have HP1 := hide (HP0.out.keep H0.out k1)
    have K1 := hide (Keep2.of (F := F) k1)
    have hq := readMarkRole_any w1 p b S G F 1 (nmT s) a _ HP1.out h1 HF1.out hGF rfl
    clear h1 k1
    go_wp2_with fail
    refine hq.mono ?_
    clear hq
    rintro e w2 ⟨rfl, h2, hF2, k2⟩
    have H2 := hide h2
    have HF2 := hide hF2
    have K2 := hide k2
    clear h2 hF2 k2
    go_wp2_with fail
    go_end0
    exact ⟨rfl, H2.out, HF2.out, K1.out.trans K2.out⟩
  rw [decide_eq_false (show ¬ nm s = ofB [97, 117, 116, 104] from e1)] at L1
  by_cases e2 : nm s = bHide
  · rw [show pMark a hh s = ((a, (pMarkRole hh (nmT s)).1), (pMarkRole hh (nmT s)).2) from by unfold pMark; rw [if_neg e1, if_pos e2]]
    rw [decide_eq_true (show nm s = ofB [104, 105, 100, 101] from e2)] at L2
    clear e1 e2
    go_enter Tryz.func198, Tryz.ntmps198
    go_wp2_with fail
    refine hc.mono ?_
    clear hc
    rintro e w1 ⟨rfl, h1, k1⟩
    have HF1 := hide (k1.at HF.out hbF.symm)
    have HP1 := hide (HP0.out.keep H0.out k1)
    have K1 := hide (Keep2.of (F := F) k1)
    have hq := readMarkRole_any w1 p b S G F 2 (nmT s) hh _ HP1.out h1 HF1.out hGF rfl
    clear h1 k1
    go_wp2_with fail
    refine hq.mono ?_
    clear hq
    rintro e w2 ⟨rfl, h2, hF2, k2⟩
    have H2 := hide h2
    have HF2 := hide hF2
    have K2 := hide k2
    clear h2 hF2 k2
    go_wp2_with fail
    go_end0
    exact ⟨rfl, H2.out, HF2.out, K1.out.trans K2.out⟩
  rw [decide_eq_false (show ¬ nm s = ofB [104, 105, 100, 101] from e2)] at L2
  rw [show pMark a hh s = ((a, hh), none) from by unfold pMark; rw [if_neg e1, if_neg e2]]
  clear e1 e2
  go_enter Tryz.func198, Tryz.ntmps198
  go_wp2_with fail
  refine hc.mono ?_
  clear hc
  rintro e w1 ⟨rfl, h1, k1⟩
  have HF1 := hide (k1.at HF.out hbF.symm)
  have HP1 := hide (HP0.out.keep H0.out k1)
  have K1 := hide (Keep2.of (F := F) k1)
  have c1 := HP1.out.c0
  have hq := fail_any w1 b G _ h1
  clear h1 k1
  go_wp2_with fail
  refine hq.mono ?_
  clear hq
  rintro e w2 ⟨rfl, h2, k2⟩
  have H2 := hide h2
  have HF2 := hide (k2.at HF1.out hbF.symm)
  have K2 := hide (Keep2.of (F := F) k2)
  clear h2 k2
  go_wp2_with fail
  go_end0
  exact ⟨rfl, H2.out, HF2.out, K1.out.trans K2.out⟩
end Go.Proofs.YtpggfgjongkihaaGreat
