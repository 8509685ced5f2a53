/- The program's parser: readInterface, readUnion. The program's parser: readObject. The program's parser: the schema in memory; readDefinition. The program's parser: parse. -/
import Derived.Test.YtpggfgjongkihaaGreatM21
import Derived.Deep.DeepCutAuto
namespace Go.Proofs.YtpggfgjongkihaaGreat
open Go.RowKit
attribute [local go_sem ↓] Go.wp_at_zero Go.wp_at_succ
theorem KeepY.setNew {b S : Nat} {x y : World} (h : KeepY b S x y) (a : Addr) (ha : x.heap.size ≤ a.block) (v : Value) : KeepY b S x (y.setCell a v) :=
  ⟨Nat.le_trans h.size (by simp [World.setCell]), fun k c T f hk h1 h2 h3 => by
    rw [Below.heap_setCell _ _ _ _ (by have := lt_of_block hk; omega)]; exact h.block k c T f hk h1 h2 h3, h.os, h.tape, h.output, fun k hS hk hb => by
    rw [Below.heap_setCell _ _ _ _ (by omega)]; exact h.low k hS hk hb⟩
theorem KeepY.grownNew {b S : Nat} {x y z : World} {row : Option Nat} (h : KeepY b S x y) (hg : y.grownBy z row) (hr : ∀ k, row = some k → x.heap.size ≤ k) : KeepY b S x z :=
  ⟨Nat.le_trans h.size hg.size, fun k c T f hk h1 h2 h3 => by
    have hb := h.block k c T f hk h1 h2 h3
    rw [hg.block k (lt_of_block hb) (fun e => by have := hr k e.symm; have := lt_of_block hk; omega)]; exact hb, hg.os.trans h.os, hg.tape.trans h.tape, hg.output.trans h.output, fun k hS hk hb => by
    rw [hg.block k (Nat.lt_of_lt_of_le hk h.size) (fun e => by have := hr k e.symm; omega)]; exact h.low k hS hk hb⟩
/-- what is behind a definition that has a type's name -/
structure DefPost (w w' : World) (p b S G : Nat) (s' : St) (vR vO vI vU : Value) (names : List ByteArray) : Prop where
  ps : PS w' b G s'
  pp : PP w' p b S
  ky : KeepY b S w w'
  sc : ∃ vN', SC w' S vR vO vI vU vN' ∧ w'.ownsRow S 152 1 vN' names.length (strsV names)
set_option maxHeartbeats 4000000 in
set_option maxRecDepth 100000 in
theorem readInterface_any (w : World) (p b S G : Nat) (s : St) (vR vO vI vU vN : Value) (names : List ByteArray) (hP : PP w p b S) (h : PS w b G s) (hS : SC w S vR vO vI vU vN) (hN : w.ownsRow S 152 1 vN names.length (strsV names)) (hbS : b < S) (hGS : G < S) (hnl : names.length ≤ 100000) :
    Calls Tryz.prog 96 #[.pointer (some ⟨p, 0, none⟩)] w fun e w' => ∃ v, e = .returned (.agg #[.string (nm s), v]) ∧ PFlds w' w.heap.size v (pFields (nmT s)).1 ∧ (pFields (nmT s)).1.length ≤ 802 ∧ DefPost w w' p b S G (pFields (nmT s)).2 vR vO vI vU (names ++ [nm s]) := by
  have hSl := lt_of_block hS
  have HS0 := hide hS
  have HNM0 := hide hN
  clear hS hN
  have hlt := h.lt
  have hgl := h.glt
  have hpl := hP.lt
  have H0 := hide h
  have HP0 := hide hP
  have HK0 := hide (KeepY.refl b S w)
  have c0 := hP.c0
  clear h hP
  have H1 := hide (H0.out.alloc (.cells #[.string ⟨#[]⟩, .slice none 0 0] 197))
  have HP1 := hide (HP0.out.alloc (.cells #[.string ⟨#[]⟩, .slice none 0 0] 197))
  have HK1 := hide (HK0.out.alloc (.cells #[.string ⟨#[]⟩, .slice none 0 0] 197))
  have HN1S := hide (show (w.alloc (.cells #[.string ⟨#[]⟩, .slice none 0 0] 197)).heap[S]? = some (.cells #[vR, vO, vI, vU, vN] 133 (0, 0)) from by rw [alloc_other _ _ _ (lt_of_block HS0.out)]; exact HS0.out)
  have HN1R := hide (show (w.alloc (.cells #[.string ⟨#[]⟩, .slice none 0 0] 197)).heap[w.heap.size]? = some (.cells #[.string ⟨#[]⟩, .slice none 0 0] 197 (0, 0)) from heap_alloc_new _ _)
  have HNM1 := hide (ownsRow_stay HNM0.out (Stay.alloc (.cells #[.string ⟨#[]⟩, .slice none 0 0] 197)))
  clear H0 HP0 HK0 HS0 HNM0
  have c1 := HP1.out.c0
  have hc := readTypeName_any (w.alloc (.cells #[.string ⟨#[]⟩, .slice none 0 0] 197)) p b S G s vR vO vI vU vN names HP1.out H1.out HN1S.out HNM1.out hbS hGS hnl
  generalize nm s = n at *
  generalize nmT s = s1 at *
  have hfs := fun W (hP : PP W p b S) (h : PS W b G s1) => readFields_any W p b S G s1 hP h
  generalize pFields s1 = ff at *
  go_enter Tryz.func96, Tryz.ntmps96
  go_wp2_with fail
  refine hc.mono ?_
  clear hc
  rintro e w2 ⟨vN', rfl, h2, hP2, hS2, hN2, kY⟩
  have HN2R := hide (kY.block _ _ _ _ HN1R.out (by decide) (by decide) (by decide))
  have HK2 := hide (HK1.out.trans kY)
  have H2 := hide h2
  have HP2 := hide hP2
  have HN2S := hide (show w2.heap[S]? = some (.cells #[vR, vO, vI, vU, vN'] 133 (0, 0)) from hS2)
  have HNM2 := hide hN2
  have c2 := hP2.c0
  have zw2 := HK2.out.size
  have zp2 := hP2.lt
  have zb2 := h2.lt
  have zR2 := lt_of_block HN2R.out
  have zS2 := lt_of_block hS2
  have zg2 := h2.glt
  clear H1 HP1 HK1 HN1R HN1S HNM1 h2 hP2 hS2 hN2 kY
  have H3 := hide (H2.out.alloc (.cells #[.string n, .slice none 0 0] 197))
  have HP3 := hide (HP2.out.alloc (.cells #[.string n, .slice none 0 0] 197))
  have HK3 := hide (HK2.out.alloc (.cells #[.string n, .slice none 0 0] 197))
  have HN3S := hide (show (w2.alloc (.cells #[.string n, .slice none 0 0] 197)).heap[S]? = some (.cells #[vR, vO, vI, vU, vN'] 133 (0, 0)) from by rw [alloc_other _ _ _ (lt_of_block HN2S.out)]; exact HN2S.out)
  have HN3R := hide (show (w2.alloc (.cells #[.string n, .slice none 0 0] 197)).heap[w.heap.size]? = some (.cells #[.string ⟨#[]⟩, .slice none 0 0] 197 (0, 0)) from by rw [alloc_other _ _ _ (lt_of_block HN2R.out)]; exact HN2R.out)
  have HN3F := hide (show (w2.alloc (.cells #[.string n, .slice none 0 0] 197)).heap[w2.heap.size]? = some (.cells #[.string n, .slice none 0 0] 197 (0, 0)) from heap_alloc_new _ _)
  have HNM3 := hide (ownsRow_stay HNM2.out (Stay.alloc (.cells #[.string n, .slice none 0 0] 197)))
  clear H2 HP2 HK2 HN2S HN2R HNM2
  have c3 := HP3.out.c0
  have hf := hfs (w2.alloc (.cells #[.string n, .slice none 0 0] 197)) HP3.out H3.out
  clear hfs
  go_wp2_with fail
  refine hf.mono ?_
  clear hf
  rintro e w4 ⟨v, rfl, t0, hfl, h4, k4⟩
  have HP4 := hide (HP3.out.keep H3.out k4)
  have HK4 := hide (HK3.out.trans (KeepY.of_keep k4 H3.out.ty.choose_spec))
  have HN4S := hide (k4.at HN3S.out (by omega))
  have z4S := lt_of_block HN4S.out
  have HN4R := hide (k4.at HN3R.out (by omega))
  have z4R := lt_of_block HN4R.out
  have HN4F := hide (k4.at HN3F.out (by omega))
  have z4F := lt_of_block HN4F.out
  have HNM4 := hide (ownsRow_stay HNM3.out (H3.out.stay k4))
  have H4 := hide (show PS w4 b G ff.2 from h4)
  have c4 := HP4.out.c0
  have zw4 := HK4.out.size
  have zp4 := HP4.out.lt
  have zb4 := H4.out.lt
  clear H3 HP3 HK3 HN3S HN3R HN3F HNM3 h4 k4
  obtain ⟨L0, eL0, ho0, ht0⟩ := id t0
  obtain ⟨aV, cV, rfl⟩ := own_slice ho0
  clear ho0 ht0
  have HT := hide (t0.mono (C := w.heap.size) (by simp; omega))
  clear t0
  have d5 : w4.cell? ⟨w2.heap.size, 1, none⟩ = some (.slice none 0 0) := cell_of_block HN4F.out 1
  have f6 := frozen_of_block HN4F.out 1
  have H7 := hide (H4.out.set (F := w2.heap.size) (by omega) (by omega) 1 (.slice aV L0.length cV))
  have HP7 := hide (HP4.out.set HN4F.out (by decide) 1 (.slice aV L0.length cV))
  have HK7 := hide (HK4.out.setNew ⟨w2.heap.size, 1, none⟩ (by (try simp only []); omega) (.slice aV L0.length cV))
  have HN7S := hide (set_other_at HN4S.out (show S ≠ w2.heap.size by omega) 1 (.slice aV L0.length cV))
  have HN7R := hide (set_other_at HN4R.out (show w.heap.size ≠ w2.heap.size by omega) 1 (.slice aV L0.length cV))
  have HN7F := hide (show (w4.setCell ⟨w2.heap.size, 1, none⟩ (.slice aV L0.length cV)).heap[w2.heap.size]? = some (.cells #[.string n, .slice aV L0.length cV] 197 (0, 0)) from setCell_block HN4F.out 1 (.slice aV L0.length cV))
  have HNM7 := hide (ownsRow_stay HNM4.out (Stay.setT HN4F.out (by decide) 1 (.slice aV L0.length cV)))
  have HT7 := hide (HT.out.stays (Stay.setT HN4F.out (by decide) 1 (.slice aV L0.length cV)) (Stay.setT HN4F.out (by decide) 1 (.slice aV L0.length cV)))
  clear H4 HP4 HK4 HN4S HN4R HN4F HNM4 HT
  have dF0 : (w4.setCell ⟨w2.heap.size, 1, none⟩ (.slice aV L0.length cV)).cell? ⟨w2.heap.size, 0, none⟩ = some (.string n) := cell_of_block HN7F.out 0
  have dR0 : (w4.setCell ⟨w2.heap.size, 1, none⟩ (.slice aV L0.length cV)).cell? ⟨w.heap.size, 0, none⟩ = some (.string ⟨#[]⟩) := cell_of_block HN7R.out 0
  have fR0 := frozen_of_block HN7R.out 0
  have fR1 := frozen_of_block HN7R.out 1
  have dR1 : (w4.setCell ⟨w2.heap.size, 1, none⟩ (.slice aV L0.length cV)).cell? ⟨w.heap.size, 1, none⟩ = some (.slice none 0 0) := cell_of_block HN7R.out 1
  have H8 := hide (H7.out.set (F := w.heap.size) (by omega) (by omega) 0 (.string n))
  have HP8 := hide (HP7.out.set HN7R.out (by decide) 0 (.string n))
  have HK8 := hide (HK7.out.setNew ⟨w.heap.size, 0, none⟩ (by (try simp only []); omega) (.string n))
  have HN8S := hide (set_other_at HN7S.out (show S ≠ w.heap.size by omega) 0 (.string n))
  have HN8R := hide (show ((w4.setCell ⟨w2.heap.size, 1, none⟩ (.slice aV L0.length cV)).setCell ⟨w.heap.size, 0, none⟩ (.string n)).heap[w.heap.size]? = some (.cells #[.string n, .slice none 0 0] 197 (0, 0)) from setCell_block HN7R.out 0 (.string n))
  have HN8F := hide (set_other_at HN7F.out (show w2.heap.size ≠ w.heap.size by omega) 0 (.string n))
  have HNM8 := hide (ownsRow_stay HNM7.out (Stay.setT HN7R.out (by decide) 0 (.string n)))
  have HT8 := hide (HT7.out.stays (Stay.setT HN7R.out (by decide) 0 (.string n)) (Stay.setT HN7R.out (by decide) 0 (.string n)))
  clear H7 HP7 HK7 HN7S HN7R HN7F HNM7 HT7
  have H9 := hide (H8.out.set (F := w.heap.size) (by omega) (by omega) 1 (.slice aV L0.length cV))
  have HP9 := hide (HP8.out.set HN8R.out (by decide) 1 (.slice aV L0.length cV))
  have HK9 := hide (HK8.out.setNew ⟨w.heap.size, 1, none⟩ (by (try simp only []); omega) (.slice aV L0.length cV))
  have HN9S := hide (set_other_at HN8S.out (show S ≠ w.heap.size by omega) 1 (.slice aV L0.length cV))
  have HN9R := hide (show (((w4.setCell ⟨w2.heap.size, 1, none⟩ (.slice aV L0.length cV)).setCell ⟨w.heap.size, 0, none⟩ (.string n)).setCell ⟨w.heap.size, 1, none⟩ (.slice aV L0.length cV)).heap[w.heap.size]? = some (.cells #[.string n, .slice aV L0.length cV] 197 (0, 0)) from setCell_block HN8R.out 1 (.slice aV L0.length cV))
  have HN9F := hide (set_other_at HN8F.out (show w2.heap.size ≠ w.heap.size by omega) 1 (.slice aV L0.length cV))
  have HNM9 := hide (ownsRow_stay HNM8.out (Stay.setT HN8R.out (by decide) 1 (.slice aV L0.length cV)))
  have HT9 := hide (HT8.out.stays (Stay.setT HN8R.out (by decide) 1 (.slice aV L0.length cV)) (Stay.setT HN8R.out (by decide) 1 (.slice aV L0.length cV)))
  clear H8 HP8 HK8 HN8S HN8R HN8F HNM8 HT8
  go_wp2_with fail
  exact bodyPost_ret (v := .agg #[.string n, .slice aV L0.length cV]) (by simp [results, Tryz.results96, go_sem, *]) rfl ⟨_, rfl, HT9.out, hfl, ⟨H9.out, HP9.out, HK9.out, _, HN9S.out, by rw [List.length_append]; exact HNM9.out⟩⟩
def pMemF : Nat → St → List ByteArray × St
  | 0, s => ([], s)
  | f + 1, s => if isK s 16 = true then (nm (tl s) :: (pMemF f (nmT (tl s))).1, (pMemF f (nmT (tl s))).2) else ([], s)
theorem pMemF_stop (f : Nat) (s : St) (h : isK s 16 = false) : pMemF f s = ([], s) := by
  cases f with
  | zero => rfl
  | succ f => rw [pMemF, if_neg (by rw [h]; simp)]
def pMembers (s : St) : List ByteArray × St := (nm (mustT s (isK s 10)) :: (pMemF 801 (nmT (mustT s (isK s 10)))).1, (pMemF 801 (nmT (mustT s (isK s 10)))).2)
set_option maxHeartbeats 4000000 in
set_option maxRecDepth 100000 in
theorem readUnion_any (w : World) (p b S G : Nat) (s : St) (vR vO vI vU vN : Value) (names : List ByteArray) (hP : PP w p b S) (h : PS w b G s) (hS : SC w S vR vO vI vU vN) (hN : w.ownsRow S 152 1 vN names.length (strsV names)) (hbS : b < S) (hGS : G < S) (hnl : names.length ≤ 100000) :
    Calls Tryz.prog 97 #[.pointer (some ⟨p, 0, none⟩)] w fun e w' => ∃ v, e = .returned (.agg #[.string (nm s), v]) ∧ w'.ownsRow w.heap.size 9 1 v (pMembers (nmT s)).1.length (strsV (pMembers (nmT s)).1) ∧ (pMembers (nmT s)).1.length ≤ 803 ∧ DefPost w w' p b S G (pMembers (nmT s)).2 vR vO vI vU (names ++ [nm s]) := by
  obtain ⟨i0, hi, hz0, hz1, hz2⟩ := info_parts Tryz.info9'
  have hSl := lt_of_block hS
  have HS0 := hide hS
  have HNM0 := hide hN
  clear hS hN
  have hlt := h.lt
  have hgl := h.glt
  have hpl := hP.lt
  have H0 := hide h
  have HP0 := hide hP
  have HK0 := hide (KeepY.refl b S w)
  have c0 := hP.c0
  clear h hP
  have H1 := hide (H0.out.alloc (.cells #[.string ⟨#[]⟩, .slice none 0 0] 200))
  have HP1 := hide (HP0.out.alloc (.cells #[.string ⟨#[]⟩, .slice none 0 0] 200))
  have HK1 := hide (HK0.out.alloc (.cells #[.string ⟨#[]⟩, .slice none 0 0] 200))
  have HN1S := hide (show (w.alloc (.cells #[.string ⟨#[]⟩, .slice none 0 0] 200)).heap[S]? = some (.cells #[vR, vO, vI, vU, vN] 133 (0, 0)) from by rw [alloc_other _ _ _ (lt_of_block HS0.out)]; exact HS0.out)
  have HN1R := hide (show (w.alloc (.cells #[.string ⟨#[]⟩, .slice none 0 0] 200)).heap[w.heap.size]? = some (.cells #[.string ⟨#[]⟩, .slice none 0 0] 200 (0, 0)) from heap_alloc_new _ _)
  have HNM1 := hide (ownsRow_stay HNM0.out (Stay.alloc (.cells #[.string ⟨#[]⟩, .slice none 0 0] 200)))
  clear H0 HP0 HK0 HS0 HNM0
  have c1 := HP1.out.c0
  have hc := readTypeName_any (w.alloc (.cells #[.string ⟨#[]⟩, .slice none 0 0] 200)) p b S G s vR vO vI vU vN names HP1.out H1.out HN1S.out HNM1.out hbS hGS hnl
  generalize nm s = n at *
  generalize nmT s = s1 at *
  have HQ := hide (show pMembers s1 = (nm (mustT s1 (isK s1 10)) :: (pMemF 801 (nmT (mustT s1 (isK s1 10)))).1, (pMemF 801 (nmT (mustT s1 (isK s1 10)))).2) from rfl)
  generalize pMembers s1 = FF at *
  go_enter Tryz.func97, Tryz.ntmps97
  go_wp2_with fail
  refine hc.mono ?_
  clear hc
  rintro e w2 ⟨vN', rfl, h2, hP2, hS2, hN2, kY⟩
  have HN2R := hide (kY.block _ _ _ _ HN1R.out (by decide) (by decide) (by decide))
  have HK2 := hide (HK1.out.trans kY)
  have H2 := hide h2
  have HP2 := hide hP2
  have HN2S := hide (show w2.heap[S]? = some (.cells #[vR, vO, vI, vU, vN'] 133 (0, 0)) from hS2)
  have HNM2 := hide hN2
  have c2 := hP2.c0
  have zw2 := HK2.out.size
  have zp2 := hP2.lt
  have zb2 := h2.lt
  have zR2 := lt_of_block HN2R.out
  have zS2 := lt_of_block hS2
  have zg2 := h2.glt
  clear H1 HP1 HK1 HN1R HN1S HNM1 h2 hP2 hS2 hN2 kY
  have H3 := hide (H2.out.alloc (.cells #[.string n, .slice none 0 0] 200))
  have HP3 := hide (HP2.out.alloc (.cells #[.string n, .slice none 0 0] 200))
  have HK3 := hide (HK2.out.alloc (.cells #[.string n, .slice none 0 0] 200))
  have HN3S := hide (show (w2.alloc (.cells #[.string n, .slice none 0 0] 200)).heap[S]? = some (.cells #[vR, vO, vI, vU, vN'] 133 (0, 0)) from by rw [alloc_other _ _ _ (lt_of_block HN2S.out)]; exact HN2S.out)
  have HN3R := hide (show (w2.alloc (.cells #[.string n, .slice none 0 0] 200)).heap[w.heap.size]? = some (.cells #[.string ⟨#[]⟩, .slice none 0 0] 200 (0, 0)) from by rw [alloc_other _ _ _ (lt_of_block HN2R.out)]; exact HN2R.out)
  have HN3F := hide (show (w2.alloc (.cells #[.string n, .slice none 0 0] 200)).heap[w2.heap.size]? = some (.cells #[.string n, .slice none 0 0] 200 (0, 0)) from heap_alloc_new _ _)
  have HNM3 := hide (ownsRow_stay HNM2.out (Stay.alloc (.cells #[.string n, .slice none 0 0] 200)))
  clear H2 HP2 HK2 HN2S HN2R HNM2
  have c3 := HP3.out.c0
  have hn := need_any (w2.alloc (.cells #[.string n, .slice none 0 0] 200)) b G s1 10 H3.out
  go_wp2_with fail
  refine hn.mono ?_
  clear hn
  rintro e w4 ⟨rfl, h4, k4⟩
  have HP4 := hide (HP3.out.keep H3.out k4)
  have HK4 := hide (HK3.out.trans (KeepY.of_keep k4 H3.out.ty.choose_spec))
  have HN4S := hide (k4.at HN3S.out (by omega))
  have z4S := lt_of_block HN4S.out
  have HN4R := hide (k4.at HN3R.out (by omega))
  have z4R := lt_of_block HN4R.out
  have HN4F := hide (k4.at HN3F.out (by omega))
  have z4F := lt_of_block HN4F.out
  have HNM4 := hide (ownsRow_stay HNM3.out (H3.out.stay k4))
  have H4 := hide (show PS w4 b G (mustT s1 (isK s1 10)) from h4)
  have c4 := HP4.out.c0
  have zw4 := HK4.out.size
  have zp4 := HP4.out.lt
  have zb4 := H4.out.lt
  clear H3 HP3 HK3 HN3S HN3R HN3F HNM3 h4 k4
  generalize mustT s1 (isK s1 10) = s2 at *
  have hnn := fun W (h : PS W b G s2) => needName_any W b G s2 h
  generalize nm s2 = m0 at *
  generalize nmT s2 = s3 at *
  go_upto_region 3 with fail
  have HOE := hide (World.ownsRow_nil w4 w.heap.size 9 1)
  go_cut [20] (fun v20 wc => ∃ (g cap : Nat), wc.ownsRow w.heap.size 9 1 (.slice (some ⟨g, 0, none⟩) 1 cap) 1 (strsV [m0]) ∧ PS wc b G s3 ∧ PP wc p b S ∧ wc.heap[w2.heap.size]? = some (.cells #[.string n, .slice (some ⟨g, 0, none⟩) 1 cap] 200 (0, 0)) ∧ wc.heap[w.heap.size]? = some (.cells #[.string ⟨#[]⟩, .slice none 0 0] 200 (0, 0)) ∧ wc.heap[S]? = some (.cells #[vR, vO, vI, vU, vN'] 133 (0, 0)) ∧ wc.ownsRow S 152 1 vN' (names.length + 1) (strsV (names ++ [n])) ∧ KeepY b S w wc)
  case first =>
    have dA : w4.cell? ⟨w2.heap.size, 1, none⟩ = some (Value.slice none 0 0) := cell_of_block HN4F.out 1
    have fA := frozen_of_block HN4F.out 1
    have zA : w.heap.size ≤ w4.heap.size := HK4.out.size
    have cA := HP4.out.c0
    have zpA := HP4.out.lt
    have zFA := lt_of_block HN4F.out
    have HC := hide (show ∀ W, Below w4.heap.size w4 W → Calls Tryz.prog 93 #[.pointer (some ⟨b, 0, none⟩)] W fun e w' => e = .returned (.string m0) ∧ PS w' b G s3 ∧ Keep b w4 w' ∧ w'.cell? ⟨p, 0, none⟩ = some (.pointer (some ⟨b, 0, none⟩)) ∧ w'.cell? ⟨w2.heap.size, 1, none⟩ = some (Value.slice none 0 0) ∧ w'.ownsRow w.heap.size 9 1 (Value.slice none 0 0) 0 [] ∧ w'.frozen? ⟨w2.heap.size, 1, none⟩ = false ∧ w4.heap.size ≤ w'.heap.size from fun W hW => (hnn W (H4.out.below hW)).mono (by
      rintro e w' ⟨a1, a2, a3⟩
      have a4 := (Keep.of_below (b := b) hW).trans a3
      exact ⟨a1, a2, a4, (HP4.out.keep H4.out a4).c0, cell_of_block (a4.at HN4F.out (by omega)) 1, ownsRow_stay HOE.out (H4.out.stay a4), frozen_of_block (a4.at HN4F.out (by omega)) 1, a4.size⟩))
    have hrd : ∀ k, (Value.slice none 0 0).ownBlock = some k → w.heap.size ≤ k := fun k hk => (HOE.out.lt k hk).1
    have hloS : Option.some (S) ≠ (Value.slice none 0 0).ownBlock := own_far HOE.out HN4S.out (by decide)
    have hloR : Option.some (w.heap.size) ≠ (Value.slice none 0 0).ownBlock := own_far HOE.out HN4R.out (by decide)
    have hloF : Option.some (w2.heap.size) ≠ (Value.slice none 0 0).ownBlock := own_far HOE.out HN4F.out (by decide)
    have hlop : Option.some p ≠ (Value.slice none 0 0).ownBlock := own_far HOE.out HP4.out (by decide)
    have hlob : Option.some b ≠ (Value.slice none 0 0).ownBlock := own_far HOE.out H4.out.ty.choose_spec (by decide)
    have hpF : p ≠ w2.heap.size := HP4.out.ne HN4F.out (by decide)
    skip
    go_region_law (first
      | (refine step_append_lies _ (by rfl) _ _ _ (by rfl) w.heap.size 9 i0 _ 1 16 Tryz.underlying50 hi hz0 hz1 hz2 rfl (by decide) _ _ _ (by rfl) (hO4.alloc _) ⟨wc5.heap.size, 0, none⟩ 1 1 [.string m0] (by rfl) (by rfl) (cell_one_new _ _ _) (fun u hu => by simp at hu; subst hu; rfl) (by decide) (by unfold maxLen; omega) (by omega) (by simp; omega) (wc5.heap.size + 1) (by simp) ?_; intro g cap wd5 hown5 hgrow hat hg5; have e5 : wd5.cell? ⟨w2.heap.size, 1, none⟩ = some (Value.slice none 0 0) := (hgrow.cell_far ⟨w2.heap.size, 1, none⟩ (by simp; omega) hloF).trans (by first | exact (((Below.refl wc5.heap.size wc5).alloc (Nat.le_refl _) _).cell (show w2.heap.size < wc5.heap.size by omega)).trans d4 | exact ((((Below.refl wc5.heap.size wc5).alloc (Nat.le_refl _) _).drew).cell (show w2.heap.size < wc5.heap.size by omega)).trans d4); have cp5 : wd5.cell? ⟨p, 0, none⟩ = some (.pointer (some ⟨b, 0, none⟩)) := (hgrow.cell_far ⟨p, 0, none⟩ (by simp; omega) hlop).trans (by first | exact (((Below.refl wc5.heap.size wc5).alloc (Nat.le_refl _) _).cell (show p < wc5.heap.size by omega)).trans c4 | exact ((((Below.refl wc5.heap.size wc5).alloc (Nat.le_refl _) _).drew).cell (show p < wc5.heap.size by omega)).trans c4); have f5 : wd5.frozen? ⟨w2.heap.size, 1, none⟩ = false := (hgrow.frozen_far ⟨w2.heap.size, 1, none⟩ (by simp; omega) hloF).trans (by first | exact (((Below.refl wc5.heap.size wc5).alloc (Nat.le_refl _) _).frozen (show w2.heap.size < wc5.heap.size by omega)).trans f4 | exact ((((Below.refl wc5.heap.size wc5).alloc (Nat.le_refl _) _).drew).frozen (show w2.heap.size < wc5.heap.size by omega)).trans f4))
      | (go_simp; go_at_call 93; refine (HC.out _ ?_).mono ?_; (first | exact (Below.refl _ _).drew | exact Below.refl _ _); rintro e wc5 ⟨rfl, h4, k4, c4, d4, hO4, f4, z4⟩; have n4 : wc5.heap.size ≠ w2.heap.size := (by omega); have n4' : w2.heap.size < wc5.heap.size := (by omega); have n4p : p < wc5.heap.size := (by omega)))
    all_goals (
      have h4S := (k4.at HN4S.out (by omega))
      have g5S : wd5.heap[S]? = some (.cells #[vR, vO, vI, vU, vN'] 133 (0, 0)) := (hgrow.block _ (by simp; omega) hloS).trans ((alloc_other _ _ _ (lt_of_block h4S)).trans h4S)
      have h4R := (k4.at HN4R.out (by omega))
      have g5R : wd5.heap[w.heap.size]? = some (.cells #[.string ⟨#[]⟩, .slice none 0 0] 200 (0, 0)) := (hgrow.block _ (by simp; omega) hloR).trans ((alloc_other _ _ _ (lt_of_block h4R)).trans h4R)
      have h4F := (k4.at HN4F.out (by omega))
      have g5F : wd5.heap[w2.heap.size]? = some (.cells #[.string n, .slice none 0 0] 200 (0, 0)) := (hgrow.block _ (by simp; omega) hloF).trans ((alloc_other _ _ _ (lt_of_block h4F)).trans h4F)
      have hP4 := HP4.out.keep H4.out k4
      have hK4 := HK4.out.trans (KeepY.of_keep k4 H4.out.ty.choose_spec)
      have H6 := hide (((h4.alloc _).grown' hgrow hlob (fun e => by have := hrd G e.symm; omega)).set (F := w2.heap.size) (by omega) (by omega) 1 (Value.slice (some ⟨g, 0, none⟩) (0 + 1) cap))
      have HP6 := hide (((hP4.alloc _).grown' hgrow hlop).set g5F (by decide) 1 (Value.slice (some ⟨g, 0, none⟩) (0 + 1) cap))
      have HK6 := hide (((hK4.alloc _).grownNew hgrow (fun k hk => by have := hrd k hk; omega)).setNew ⟨w2.heap.size, 1, none⟩ (by simp only []; omega) (Value.slice (some ⟨g, 0, none⟩) (0 + 1) cap))
      have HO6 := hide (ownsRow_stay hown5 (Stay.setT (T := 9) (B := w.heap.size) g5F (by decide) 1 (Value.slice (some ⟨g, 0, none⟩) (0 + 1) cap)))
      have HN6S := hide (set_other_at g5S (show S ≠ w2.heap.size by omega) 1 (Value.slice (some ⟨g, 0, none⟩) (0 + 1) cap))
      have HN6R := hide (set_other_at g5R (show w.heap.size ≠ w2.heap.size by omega) 1 (Value.slice (some ⟨g, 0, none⟩) (0 + 1) cap))
      have HN6F := hide (show (wd5.setCell ⟨w2.heap.size, 1, none⟩ (Value.slice (some ⟨g, 0, none⟩) (0 + 1) cap)).heap[w2.heap.size]? = some (.cells #[.string n, (Value.slice (some ⟨g, 0, none⟩) (0 + 1) cap)] 200 (0, 0)) from setCell_block g5F 1 (Value.slice (some ⟨g, 0, none⟩) (0 + 1) cap))
      have HNM6 := hide (ownsRow_stay HNM4.out ((((H4.out.stay k4).trans (Stay.alloc _)).trans (Stay.grown hgrow (hO4.alloc _) rfl (by decide))).trans (Stay.setT g5F (by decide) 1 (Value.slice (some ⟨g, 0, none⟩) (0 + 1) cap))))
      go_wp2_with fail
      go_meet
      exact ⟨_, _, HO6.out, H6.out, HP6.out, HN6F.out, HN6R.out, HN6S.out, HNM6.out, HK6.out⟩)
  case rest =>
    clear H4 HP4 HK4 HOE hnn HN4S HN4R HN4F HNM4
    obtain ⟨g0, cap0, hO1, h1, hP1, hF1, hR1, hS1, hM1, hK1⟩ := hcut
    have hl1 := h1.len
    go_wp2_with fail
    go_loopg [] (ln s3) (fun k wr => ∃ (acc : List ByteArray) (v : Value) (s' : St) (f : Nat), ln s' ≤ k ∧ ln s' ≤ f ∧ wr.ownsRow w.heap.size 9 1 v acc.length (strsV acc) ∧ acc.length + ln s' ≤ 803 ∧ PS wr b G s' ∧ PP wr p b S ∧ wr.heap[w2.heap.size]? = some (.cells #[.string n, v] 200 (0, 0)) ∧ wr.heap[w.heap.size]? = some (.cells #[.string ⟨#[]⟩, .slice none 0 0] 200 (0, 0)) ∧ wr.heap[S]? = some (.cells #[vR, vO, vI, vU, vN'] 133 (0, 0)) ∧ wr.ownsRow S 152 1 vN' (names.length + 1) (strsV (names ++ [n])) ∧ KeepY b S w wr ∧ (m0 :: (pMemF 801 s3).1, (pMemF 801 s3).2) = (acc ++ (pMemF f s').1, (pMemF f s').2))
    case atStart => exact ⟨[m0], _, s3, 801, Nat.le_refl _, hl1, hO1, by simp; omega, h1, hP1, hF1, hR1, hS1, hM1, hK1, rfl⟩
    case round =>
      clear hO1 h1 hP1 hF1 hR1 hS1 hM1 hK1 hl1
      obtain ⟨acc, v, s', f, hlk, hlf, hO2, hac, h2, hP2, hF2, hR2, hS2, hM2, hK2, hrel⟩ := hrel
      obtain ⟨aI, cI, rfl⟩ := own_slice hO2
      have HM := hide hrel
      have H2 := hide h2
      have HP2 := hide hP2
      have HF2 := hide hF2
      have HR2 := hide hR2
      have HS2 := hide hS2
      have HM2 := hide hM2
      have HO2 := hide hO2
      have HK2 := hide hK2
      have c2 := hP2.c0
      have zF2 := lt_of_block hF2
      have zR2 := lt_of_block hR2
      have zS2 := lt_of_block hS2
      have zp2 := hP2.lt
      have zw2 := hK2.size
      have hc := take_any wr b G s' 16 h2
      clear h2 hP2 hF2 hR2 hS2 hM2 hO2 hK2 hrel
      cases hx : isK s' 16
      · rw [hx] at hc
        have HE := hide (show FF = (acc, s') from by
          have := HM.out
          rw [pMemF_stop f s' hx] at this
          rw [HQ.out, this]; simp)
        clear hx HM HQ
        go_wp2_with fail
        refine hc.mono ?_
        clear hc
        rintro e w301 ⟨rfl, h301, k301⟩
        have HP301 := hide (HP2.out.keep H2.out k301)
        have HK301 := hide (HK2.out.trans (KeepY.of_keep k301 H2.out.ty.choose_spec))
        have HN301F := hide (k301.at HF2.out (by omega))
        have z301F := lt_of_block HN301F.out
        have HN301R := hide (k301.at HR2.out (by omega))
        have z301R := lt_of_block HN301R.out
        have HN301S := hide (k301.at HS2.out (by omega))
        have z301S := lt_of_block HN301S.out
        have HNM301 := hide (ownsRow_stay HM2.out (H2.out.stay k301))
        have HOA301 := hide (ownsRow_stay HO2.out (H2.out.stay k301))
        have H301 := hide (show PS w301 b G s' from h301)
        have c301 := HP301.out.c0
        have zw301 := HK301.out.size
        have zp301 := HP301.out.lt
        have zb301 := H301.out.lt
        clear H2 HP2 HK2 HF2 HR2 HS2 HM2 HO2 h301 k301
        have d302 : w301.cell? ⟨w2.heap.size, 0, none⟩ = some (.string n) := cell_of_block HN301F.out 0
        have d303 : w301.cell? ⟨w2.heap.size, 1, none⟩ = some (.slice aI acc.length cI) := cell_of_block HN301F.out 1
        have d304 : w301.cell? ⟨w.heap.size, 0, none⟩ = some (.string ⟨#[]⟩) := cell_of_block HN301R.out 0
        have d305 : w301.cell? ⟨w.heap.size, 1, none⟩ = some (.slice none 0 0) := cell_of_block HN301R.out 1
        have f306 := frozen_of_block HN301R.out 0
        have f307 := frozen_of_block HN301R.out 1
        have H308 := hide (H301.out.set (F := w.heap.size) (by omega) (by omega) 0 (.string n))
        have HP308 := hide (HP301.out.set HN301R.out (by decide) 0 (.string n))
        have HK308 := hide (HK301.out.setNew ⟨w.heap.size, 0, none⟩ (by (try simp only []); omega) (.string n))
        have HN308F := hide (set_other_at HN301F.out (show w2.heap.size ≠ w.heap.size by omega) 0 (.string n))
        have HN308R := hide (show (w301.setCell ⟨w.heap.size, 0, none⟩ (.string n)).heap[w.heap.size]? = some (.cells #[.string n, .slice none 0 0] 200 (0, 0)) from setCell_block HN301R.out 0 (.string n))
        have HN308S := hide (set_other_at HN301S.out (show S ≠ w.heap.size by omega) 0 (.string n))
        have HNM308 := hide (ownsRow_stay HNM301.out (Stay.setT HN301R.out (by decide) 0 (.string n)))
        have HOA308 := hide (ownsRow_stay HOA301.out (Stay.setT HN301R.out (by decide) 0 (.string n)))
        clear H301 HP301 HK301 HN301F HN301R HN301S HNM301 HOA301
        have H309 := hide (H308.out.set (F := w.heap.size) (by omega) (by omega) 1 (.slice aI acc.length cI))
        have HP309 := hide (HP308.out.set HN308R.out (by decide) 1 (.slice aI acc.length cI))
        have HK309 := hide (HK308.out.setNew ⟨w.heap.size, 1, none⟩ (by (try simp only []); omega) (.slice aI acc.length cI))
        have HN309F := hide (set_other_at HN308F.out (show w2.heap.size ≠ w.heap.size by omega) 1 (.slice aI acc.length cI))
        have HN309R := hide (show ((w301.setCell ⟨w.heap.size, 0, none⟩ (.string n)).setCell ⟨w.heap.size, 1, none⟩ (.slice aI acc.length cI)).heap[w.heap.size]? = some (.cells #[.string n, .slice aI acc.length cI] 200 (0, 0)) from setCell_block HN308R.out 1 (.slice aI acc.length cI))
        have HN309S := hide (set_other_at HN308S.out (show S ≠ w.heap.size by omega) 1 (.slice aI acc.length cI))
        have HNM309 := hide (ownsRow_stay HNM308.out (Stay.setT HN308R.out (by decide) 1 (.slice aI acc.length cI)))
        have HOA309 := hide (ownsRow_stay HOA308.out (Stay.setT HN308R.out (by decide) 1 (.slice aI acc.length cI)))
        clear H308 HP308 HK308 HN308F HN308R HN308S HNM308 HOA308
        go_wp2_with fail
        rw [HE.out]
        exact bodyPost_ret (v := .agg #[.string n, .slice aI acc.length cI]) (by simp [results, Tryz.results97, go_sem, *]) rfl ⟨_, rfl, HOA309.out, by simp only []; omega, ⟨H309.out, HP309.out, HK309.out, _, HN309S.out, by rw [List.length_append]; exact HNM309.out⟩⟩
      · rw [hx] at hc
        have hlt' := ln_tl_lt s' 16 (by decide) hx
        obtain ⟨f', rfl⟩ : ∃ f', f = f' + 1 := ⟨f - 1, by omega⟩
        have HE := hide (show (m0 :: (pMemF 801 s3).1, (pMemF 801 s3).2) = (acc ++ (nm (tl s') :: (pMemF f' (nmT (tl s'))).1), (pMemF f' (nmT (tl s'))).2) from by rw [HM.out, pMemF, if_pos hx])
        have hlm := ln_nmT (tl s')
        have hnn := fun W (h : PS W b G (tl s')) => needName_any W b G (tl s') h
        clear hx HM
        generalize nm (tl s') = m at *
        generalize nmT (tl s') = s4 at *
        go_wp2_with fail
        refine hc.mono ?_
        clear hc
        rintro e w401 ⟨rfl, h401, k401⟩
        have HP401 := hide (HP2.out.keep H2.out k401)
        have HK401 := hide (HK2.out.trans (KeepY.of_keep k401 H2.out.ty.choose_spec))
        have HN401F := hide (k401.at HF2.out (by omega))
        have z401F := lt_of_block HN401F.out
        have HN401R := hide (k401.at HR2.out (by omega))
        have z401R := lt_of_block HN401R.out
        have HN401S := hide (k401.at HS2.out (by omega))
        have z401S := lt_of_block HN401S.out
        have HNM401 := hide (ownsRow_stay HM2.out (H2.out.stay k401))
        have HOA401 := hide (ownsRow_stay HO2.out (H2.out.stay k401))
        have H401 := hide (show PS w401 b G (tl s') from h401)
        have c401 := HP401.out.c0
        have zw401 := HK401.out.size
        have zp401 := HP401.out.lt
        have zb401 := H401.out.lt
        clear H2 HP2 HK2 HF2 HR2 HS2 HM2 HO2 h401 k401
        have dA : w401.cell? ⟨w2.heap.size, 1, none⟩ = some (Value.slice aI acc.length cI) := cell_of_block HN401F.out 1
        have fA := frozen_of_block HN401F.out 1
        have zA : w.heap.size ≤ w401.heap.size := HK401.out.size
        have cA := HP401.out.c0
        have zpA := HP401.out.lt
        have zFA := lt_of_block HN401F.out
        have HC := hide (show ∀ W, Below w401.heap.size w401 W → Calls Tryz.prog 93 #[.pointer (some ⟨b, 0, none⟩)] W fun e w' => e = .returned (.string m) ∧ PS w' b G s4 ∧ Keep b w401 w' ∧ w'.cell? ⟨p, 0, none⟩ = some (.pointer (some ⟨b, 0, none⟩)) ∧ w'.cell? ⟨w2.heap.size, 1, none⟩ = some (Value.slice aI acc.length cI) ∧ w'.ownsRow w.heap.size 9 1 (Value.slice aI acc.length cI) acc.length (strsV acc) ∧ w'.frozen? ⟨w2.heap.size, 1, none⟩ = false ∧ w401.heap.size ≤ w'.heap.size from fun W hW => (hnn W (H401.out.below hW)).mono (by
          rintro e w' ⟨a1, a2, a3⟩
          have a4 := (Keep.of_below (b := b) hW).trans a3
          exact ⟨a1, a2, a4, (HP401.out.keep H401.out a4).c0, cell_of_block (a4.at HN401F.out (by omega)) 1, ownsRow_stay HOA401.out (H401.out.stay a4), frozen_of_block (a4.at HN401F.out (by omega)) 1, a4.size⟩))
        have hrd : ∀ k, (Value.slice aI acc.length cI).ownBlock = some k → w.heap.size ≤ k := fun k hk => (HOA401.out.lt k hk).1
        have hloF : Option.some (w2.heap.size) ≠ (Value.slice aI acc.length cI).ownBlock := own_far HOA401.out HN401F.out (by decide)
        have hloR : Option.some (w.heap.size) ≠ (Value.slice aI acc.length cI).ownBlock := own_far HOA401.out HN401R.out (by decide)
        have hloS : Option.some (S) ≠ (Value.slice aI acc.length cI).ownBlock := own_far HOA401.out HN401S.out (by decide)
        have hlop : Option.some p ≠ (Value.slice aI acc.length cI).ownBlock := own_far HOA401.out HP401.out (by decide)
        have hlob : Option.some b ≠ (Value.slice aI acc.length cI).ownBlock := own_far HOA401.out H401.out.ty.choose_spec (by decide)
        have hpF : p ≠ w2.heap.size := HP401.out.ne HN401F.out (by decide)
        go_wp2_with fail
        go_region_law (first
          | (refine step_append_lies _ (by rfl) _ _ _ (by rfl) w.heap.size 9 i0 _ 1 16 Tryz.underlying50 hi hz0 hz1 hz2 rfl (by decide) _ _ _ (by rfl) (hO4.alloc _) ⟨wc402.heap.size, 0, none⟩ 1 1 [.string m] (by rfl) (by rfl) (cell_one_new _ _ _) (fun u hu => by simp at hu; subst hu; rfl) (by decide) (by unfold maxLen; omega) (by omega) (by simp; omega) (wc402.heap.size + 1) (by simp) ?_; intro g cap wd402 hown5 hgrow hat hg5; have e5 : wd402.cell? ⟨w2.heap.size, 1, none⟩ = some (Value.slice aI acc.length cI) := (hgrow.cell_far ⟨w2.heap.size, 1, none⟩ (by simp; omega) hloF).trans (by first | exact (((Below.refl wc402.heap.size wc402).alloc (Nat.le_refl _) _).cell (show w2.heap.size < wc402.heap.size by omega)).trans d4 | exact ((((Below.refl wc402.heap.size wc402).alloc (Nat.le_refl _) _).drew).cell (show w2.heap.size < wc402.heap.size by omega)).trans d4); have cp5 : wd402.cell? ⟨p, 0, none⟩ = some (.pointer (some ⟨b, 0, none⟩)) := (hgrow.cell_far ⟨p, 0, none⟩ (by simp; omega) hlop).trans (by first | exact (((Below.refl wc402.heap.size wc402).alloc (Nat.le_refl _) _).cell (show p < wc402.heap.size by omega)).trans c4 | exact ((((Below.refl wc402.heap.size wc402).alloc (Nat.le_refl _) _).drew).cell (show p < wc402.heap.size by omega)).trans c4); have f5 : wd402.frozen? ⟨w2.heap.size, 1, none⟩ = false := (hgrow.frozen_far ⟨w2.heap.size, 1, none⟩ (by simp; omega) hloF).trans (by first | exact (((Below.refl wc402.heap.size wc402).alloc (Nat.le_refl _) _).frozen (show w2.heap.size < wc402.heap.size by omega)).trans f4 | exact ((((Below.refl wc402.heap.size wc402).alloc (Nat.le_refl _) _).drew).frozen (show w2.heap.size < wc402.heap.size by omega)).trans f4))
          | (go_simp; go_at_call 93; refine (HC.out _ ?_).mono ?_; (first | exact (Below.refl _ _).drew | exact Below.refl _ _); rintro e wc402 ⟨rfl, h4, k4, c4, d4, hO4, f4, z4⟩; have n4 : wc402.heap.size ≠ w2.heap.size := (by omega); have n4' : w2.heap.size < wc402.heap.size := (by omega); have n4p : p < wc402.heap.size := (by omega)))
        all_goals (
          have h4F := (k4.at HN401F.out (by omega))
          have g5F : wd402.heap[w2.heap.size]? = some (.cells #[.string n, .slice aI acc.length cI] 200 (0, 0)) := (hgrow.block _ (by simp; omega) hloF).trans ((alloc_other _ _ _ (lt_of_block h4F)).trans h4F)
          have h4R := (k4.at HN401R.out (by omega))
          have g5R : wd402.heap[w.heap.size]? = some (.cells #[.string ⟨#[]⟩, .slice none 0 0] 200 (0, 0)) := (hgrow.block _ (by simp; omega) hloR).trans ((alloc_other _ _ _ (lt_of_block h4R)).trans h4R)
          have h4S := (k4.at HN401S.out (by omega))
          have g5S : wd402.heap[S]? = some (.cells #[vR, vO, vI, vU, vN'] 133 (0, 0)) := (hgrow.block _ (by simp; omega) hloS).trans ((alloc_other _ _ _ (lt_of_block h4S)).trans h4S)
          have hP4 := HP401.out.keep H401.out k4
          have hK4 := HK401.out.trans (KeepY.of_keep k4 H401.out.ty.choose_spec)
          have H403 := hide (((h4.alloc _).grown' hgrow hlob (fun e => by have := hrd G e.symm; omega)).set (F := w2.heap.size) (by omega) (by omega) 1 (Value.slice (some ⟨g, 0, none⟩) (acc.length + 1) cap))
          have HP403 := hide (((hP4.alloc _).grown' hgrow hlop).set g5F (by decide) 1 (Value.slice (some ⟨g, 0, none⟩) (acc.length + 1) cap))
          have HK403 := hide (((hK4.alloc _).grownNew hgrow (fun k hk => by have := hrd k hk; omega)).setNew ⟨w2.heap.size, 1, none⟩ (by simp only []; omega) (Value.slice (some ⟨g, 0, none⟩) (acc.length + 1) cap))
          have HO403 := hide (ownsRow_stay hown5 (Stay.setT (T := 9) (B := w.heap.size) g5F (by decide) 1 (Value.slice (some ⟨g, 0, none⟩) (acc.length + 1) cap)))
          have HN403F := hide (show (wd402.setCell ⟨w2.heap.size, 1, none⟩ (Value.slice (some ⟨g, 0, none⟩) (acc.length + 1) cap)).heap[w2.heap.size]? = some (.cells #[.string n, (Value.slice (some ⟨g, 0, none⟩) (acc.length + 1) cap)] 200 (0, 0)) from setCell_block g5F 1 (Value.slice (some ⟨g, 0, none⟩) (acc.length + 1) cap))
          have HN403R := hide (set_other_at g5R (show w.heap.size ≠ w2.heap.size by omega) 1 (Value.slice (some ⟨g, 0, none⟩) (acc.length + 1) cap))
          have HN403S := hide (set_other_at g5S (show S ≠ w2.heap.size by omega) 1 (Value.slice (some ⟨g, 0, none⟩) (acc.length + 1) cap))
          have HNM403 := hide (ownsRow_stay HNM401.out ((((H401.out.stay k4).trans (Stay.alloc _)).trans (Stay.grown hgrow (hO4.alloc _) rfl (by decide))).trans (Stay.setT g5F (by decide) 1 (Value.slice (some ⟨g, 0, none⟩) (acc.length + 1) cap))))
          have HX := hide (show _ ∧ _ ∧ _ ∧ _ ∧ _ ∧ _ ∧ _ ∧ _ from ⟨HO403.out, H403.out, HP403.out, HN403F.out, HN403R.out, HN403S.out, HNM403.out, HK403.out⟩)
          clear hgrow hown5 h4 k4 hO4 H403 HP403 HK403 HO403 HN403F HN403R HN403S HNM403 g5F g5R g5S h4F h4R h4S hP4 hK4
          go_wp2_with fail
          go_roundg (ln s4)
          case measure => omega
          case rel => exact ⟨acc ++ [m], _, s4, f', Nat.le_refl _, by omega, by rw [strsV_snoc, List.length_append]; exact HX.out.1, by simp; omega, HX.out.2.1, HX.out.2.2.1, HX.out.2.2.2.1, HX.out.2.2.2.2.1, HX.out.2.2.2.2.2.1, HX.out.2.2.2.2.2.2.1, HX.out.2.2.2.2.2.2.2, by rw [HE.out]; simp⟩)
end Go.Proofs.YtpggfgjongkihaaGreat
namespace Go.Proofs.YtpggfgjongkihaaGreat
open Go.RowKit
attribute [local go_sem ↓] Go.wp_at_zero Go.wp_at_succ
def pImplF : Nat → St → List ByteArray × St
  | 0, s => ([], s)
  | f + 1, s => if isK s 1 = true then (nm s :: (pImplF f (nmT s)).1, (pImplF f (nmT s)).2) else ([], s)
theorem pImplF_stop (f : Nat) (s : St) (h : isK s 1 = false) : pImplF f s = ([], s) := by
  cases f with
  | zero => rfl
  | succ f => rw [pImplF, if_neg (by rw [h]; simp)]
def pImpl (s : St) : List ByteArray × St :=
  if isW s bImpl = true then (nm (tl s) :: (pImplF 801 (nmT (tl s))).1, (pImplF 801 (nmT (tl s))).2) else ([], s)
def pRows2 (s : St) : St := mustT (mustT s (isW s bRows)) (isK (mustT s (isW s bRows)) 7)
def pRows (s : St) : Option (List Leaf) × St :=
  if isK s 11 = true then (some (pRule 802 (pRows2 (tl s))).1, mustT (pRule 802 (pRows2 (tl s))).2 (isK (pRule 802 (pRows2 (tl s))).2 8)) else (none, s)
def RuleAt (w : World) (B : Nat) (v : Value) : Option (List Leaf) → Prop
  | none => v = .pointer none
  | some l => RuAt w (fun k => B ≤ k) v l
theorem RuleAt.stays {w w' : World} {B : Nat} {v : Value} {o : Option (List Leaf)} (h : RuleAt w B v o) (h1 : Stay 216 B w w') (h2 : Stay 161 B w w') : RuleAt w' B v o := by
  cases o with
  | none => exact h
  | some l => exact RuAt.stays h1 h2 h
theorem RuleAt.ptr {w : World} {B : Nat} {v : Value} {o : Option (List Leaf)} (h : RuleAt w B v o) : ∃ q, v = .pointer q := by
  cases o with
  | none => exact ⟨none, h⟩
  | some l => obtain ⟨k, hk⟩ := RuAt.ptr h; exact ⟨_, hk⟩
structure PObj where
  name : ByteArray
  fields : List PFld
  impl : List ByteArray
  rule : Option (List Leaf)
def pObject (s : St) : PObj × St :=
  (⟨nm s, (pFields (pRows (pImpl (nmT s)).2).2).1, (pImpl (nmT s)).1, (pRows (pImpl (nmT s)).2).1⟩, (pFields (pRows (pImpl (nmT s)).2).2).2)
theorem rule_any (w : World) (p b S G : Nat) (s : St) (hP : PP w p b S) (h : PS w b G s) :
    Calls Tryz.prog 134 #[.pointer (some ⟨p, 0, none⟩)] w fun e w' => ∃ u, e = .returned u ∧ RuAt w' (fun k => w.heap.size ≤ k) u (pRule 802 s).1 ∧ PS w' b G (pRule 802 s).2 ∧ Keep b w w' :=
  ruleC p b S G 801 _ (clauseC p b S G 801 _ (unitC p b S G 801 (by decide)) (ln_pUnit _) (by decide)) (ln_chain _ _ (ln_pUnit _)) (by decide) w s h.len hP h
set_option maxHeartbeats 4000000 in
set_option maxRecDepth 100000 in
theorem readObject_any (w : World) (p b S G : Nat) (s : St) (vR vO vI vU vN : Value) (names : List ByteArray) (hP : PP w p b S) (h : PS w b G s) (hS : SC w S vR vO vI vU vN) (hN : w.ownsRow S 152 1 vN names.length (strsV names)) (hbS : b < S) (hGS : G < S) (hnl : names.length ≤ 100000) :
    Calls Tryz.prog 95 #[.pointer (some ⟨p, 0, none⟩)] w fun e w' => ∃ vF vA vL, e = .returned (.agg #[.string (pObject s).1.name, vF, vA, vL]) ∧ PFlds w' w.heap.size vF (pObject s).1.fields ∧ (pObject s).1.fields.length ≤ 802 ∧ w'.ownsRow w.heap.size 9 1 vA (pObject s).1.impl.length (strsV (pObject s).1.impl) ∧ (pObject s).1.impl.length ≤ 803 ∧ RuleAt w' w.heap.size vL (pObject s).1.rule ∧ DefPost w w' p b S G (pObject s).2 vR vO vI vU (names ++ [(pObject s).1.name]) := by
  obtain ⟨i0, hi, hz0, hz1, hz2⟩ := info_parts Tryz.info9'
  have hSl := lt_of_block hS
  have HS0 := hide hS
  have HNM0 := hide hN
  clear hS hN
  have hlt := h.lt
  have hgl := h.glt
  have hpl := hP.lt
  have H0 := hide h
  have HP0 := hide hP
  have HK0 := hide (KeepY.refl b S w)
  have c0 := hP.c0
  clear h hP
  have H1 := hide (H0.out.alloc (.cells #[.string ⟨#[]⟩, .slice none 0 0, .slice none 0 0, .pointer none] 163))
  have HP1 := hide (HP0.out.alloc (.cells #[.string ⟨#[]⟩, .slice none 0 0, .slice none 0 0, .pointer none] 163))
  have HK1 := hide (HK0.out.alloc (.cells #[.string ⟨#[]⟩, .slice none 0 0, .slice none 0 0, .pointer none] 163))
  have HN1S := hide (show (w.alloc (.cells #[.string ⟨#[]⟩, .slice none 0 0, .slice none 0 0, .pointer none] 163)).heap[S]? = some (.cells #[vR, vO, vI, vU, vN] 133 (0, 0)) from by rw [alloc_other _ _ _ (lt_of_block HS0.out)]; exact HS0.out)
  have HN1R := hide (show (w.alloc (.cells #[.string ⟨#[]⟩, .slice none 0 0, .slice none 0 0, .pointer none] 163)).heap[w.heap.size]? = some (.cells #[.string ⟨#[]⟩, .slice none 0 0, .slice none 0 0, .pointer none] 163 (0, 0)) from heap_alloc_new _ _)
  have HNM1 := hide (ownsRow_stay HNM0.out (Stay.alloc (.cells #[.string ⟨#[]⟩, .slice none 0 0, .slice none 0 0, .pointer none] 163)))
  clear H0 HP0 HK0 HS0 HNM0
  have c1 := HP1.out.c0
  have hc := readTypeName_any (w.alloc (.cells #[.string ⟨#[]⟩, .slice none 0 0, .slice none 0 0, .pointer none] 163)) p b S G s vR vO vI vU vN names HP1.out H1.out HN1S.out HNM1.out hbS hGS hnl
  have HQ := hide (show pObject s = (⟨nm s, (pFields (pRows (pImpl (nmT s)).2).2).1, (pImpl (nmT s)).1, (pRows (pImpl (nmT s)).2).1⟩, (pFields (pRows (pImpl (nmT s)).2).2).2) from rfl)
  generalize pObject s = FF at *
  generalize nm s = n at *
  generalize nmT s = s1 at *
  have htw := fun W (h : PS W b G s1) => takeW_any W b G s1 bImpl h
  go_enter Tryz.func95, Tryz.ntmps95
  go_wp2_with fail
  refine hc.mono ?_
  clear hc
  rintro e w2 ⟨vN', rfl, h2, hP2, hS2, hN2, kY⟩
  have HN2R := hide (kY.block _ _ _ _ HN1R.out (by decide) (by decide) (by decide))
  have HK2 := hide (HK1.out.trans kY)
  have H2 := hide h2
  have HP2 := hide hP2
  have HN2S := hide (show w2.heap[S]? = some (.cells #[vR, vO, vI, vU, vN'] 133 (0, 0)) from hS2)
  have HNM2 := hide hN2
  have c2 := hP2.c0
  have zw2 := HK2.out.size
  have zp2 := hP2.lt
  have zb2 := h2.lt
  have zR2 := lt_of_block HN2R.out
  have zS2 := lt_of_block hS2
  have zg2 := h2.glt
  clear H1 HP1 HK1 HN1R HN1S HNM1 h2 hP2 hS2 hN2 kY
  have H3 := hide (H2.out.alloc (.cells #[.string n, .slice none 0 0, .slice none 0 0, .pointer none] 163))
  have HP3 := hide (HP2.out.alloc (.cells #[.string n, .slice none 0 0, .slice none 0 0, .pointer none] 163))
  have HK3 := hide (HK2.out.alloc (.cells #[.string n, .slice none 0 0, .slice none 0 0, .pointer none] 163))
  have HN3S := hide (show (w2.alloc (.cells #[.string n, .slice none 0 0, .slice none 0 0, .pointer none] 163)).heap[S]? = some (.cells #[vR, vO, vI, vU, vN'] 133 (0, 0)) from by rw [alloc_other _ _ _ (lt_of_block HN2S.out)]; exact HN2S.out)
  have HN3R := hide (show (w2.alloc (.cells #[.string n, .slice none 0 0, .slice none 0 0, .pointer none] 163)).heap[w.heap.size]? = some (.cells #[.string ⟨#[]⟩, .slice none 0 0, .slice none 0 0, .pointer none] 163 (0, 0)) from by rw [alloc_other _ _ _ (lt_of_block HN2R.out)]; exact HN2R.out)
  have HN3F := hide (show (w2.alloc (.cells #[.string n, .slice none 0 0, .slice none 0 0, .pointer none] 163)).heap[w2.heap.size]? = some (.cells #[.string n, .slice none 0 0, .slice none 0 0, .pointer none] 163 (0, 0)) from heap_alloc_new _ _)
  have HNM3 := hide (ownsRow_stay HNM2.out (Stay.alloc (.cells #[.string n, .slice none 0 0, .slice none 0 0, .pointer none] 163)))
  clear H2 HP2 HK2 HN2S HN2R HNM2
  have c3 := HP3.out.c0
  have ht := htw (w2.alloc (.cells #[.string n, .slice none 0 0, .slice none 0 0, .pointer none] 163)) H3.out
  clear htw
  go_wp2_with fail
  refine ht.mono ?_
  clear ht
  rintro e w4 ⟨rfl, h4, k4⟩
  have HP4 := hide (HP3.out.keep H3.out k4)
  have HK4 := hide (HK3.out.trans (KeepY.of_keep k4 H3.out.ty.choose_spec))
  have HN4S := hide (k4.at HN3S.out (by omega))
  have z4S := lt_of_block HN4S.out
  have HN4R := hide (k4.at HN3R.out (by omega))
  have z4R := lt_of_block HN4R.out
  have HN4F := hide (k4.at HN3F.out (by omega))
  have z4F := lt_of_block HN4F.out
  have HNM4 := hide (ownsRow_stay HNM3.out (H3.out.stay k4))
  have H4 := hide (show PS w4 b G (mayT s1 (isW s1 bImpl)) from h4)
  have c4 := HP4.out.c0
  have zw4 := HK4.out.size
  have zp4 := HP4.out.lt
  have zb4 := H4.out.lt
  clear H3 HP3 HK3 HN3S HN3R HN3F HNM3 h4 k4
  have HOE := hide (World.ownsRow_nil w4 w.heap.size 9 1)
  go_upto_if 12 with fail
  go_cut [20] (fun v20 wc => ∃ (impl : List ByteArray) (aA : Option Addr) (cA : Nat) (s2 : St), pImpl s1 = (impl, s2) ∧ impl.length ≤ 803 ∧ wc.ownsRow w.heap.size 9 1 (.slice aA impl.length cA) impl.length (strsV impl) ∧ PS wc b G s2 ∧ PP wc p b S ∧ wc.heap[w2.heap.size]? = some (.cells #[.string n, .slice none 0 0, .slice aA impl.length cA, .pointer none] 163 (0, 0)) ∧ wc.heap[w.heap.size]? = some (.cells #[.string ⟨#[]⟩, .slice none 0 0, .slice none 0 0, .pointer none] 163 (0, 0)) ∧ wc.heap[S]? = some (.cells #[vR, vO, vI, vU, vN'] 133 (0, 0)) ∧ wc.ownsRow S 152 1 vN' (names.length + 1) (strsV (names ++ [n])) ∧ KeepY b S w wc)
  case first =>
    cases hx : isW s1 bImpl
    · rw [hx] at H4
      have e0 : pImpl s1 = ([], s1) := by rw [pImpl, if_neg (by rw [hx]; simp)]
      have HE0 := hide e0
      clear e0 hx
      go_wp2_with fail
      go_meet
      exact ⟨[], none, 0, s1, HE0.out, by simp, HOE.out, H4.out, HP4.out, HN4F.out, HN4R.out, HN4S.out, HNM4.out, HK4.out⟩
    · rw [hx] at H4
      have HE0 := hide (show pImpl s1 = (nm (tl s1) :: (pImplF 801 (nmT (tl s1))).1, (pImplF 801 (nmT (tl s1))).2) from by rw [pImpl, if_pos hx])
      have HS1 := hide (show PS w4 b G (tl s1) from H4.out)
      clear hx H4
      generalize pImpl s1 = PI at *
      generalize tl s1 = s2 at *
      have hnn := fun W (h : PS W b G s2) => needName_any W b G s2 h
      generalize nm s2 = m0 at *
      generalize nmT s2 = s3 at *
      go_upto_region 3 with fail
      go_cut [20] (fun v20 wc => ∃ (g cap : Nat), wc.ownsRow w.heap.size 9 1 (.slice (some ⟨g, 0, none⟩) 1 cap) 1 (strsV [m0]) ∧ PS wc b G s3 ∧ PP wc p b S ∧ wc.heap[w2.heap.size]? = some (.cells #[.string n, .slice none 0 0, .slice (some ⟨g, 0, none⟩) 1 cap, .pointer none] 163 (0, 0)) ∧ wc.heap[w.heap.size]? = some (.cells #[.string ⟨#[]⟩, .slice none 0 0, .slice none 0 0, .pointer none] 163 (0, 0)) ∧ wc.heap[S]? = some (.cells #[vR, vO, vI, vU, vN'] 133 (0, 0)) ∧ wc.ownsRow S 152 1 vN' (names.length + 1) (strsV (names ++ [n])) ∧ KeepY b S w wc)
      case first =>
        have dA : w4.cell? ⟨w2.heap.size, 2, none⟩ = some (Value.slice none 0 0) := cell_of_block HN4F.out 2
        have fA := frozen_of_block HN4F.out 2
        have zA : w.heap.size ≤ w4.heap.size := HK4.out.size
        have cA := HP4.out.c0
        have zpA := HP4.out.lt
        have zFA := lt_of_block HN4F.out
        have HC := hide (show ∀ W, Below w4.heap.size w4 W → Calls Tryz.prog 93 #[.pointer (some ⟨b, 0, none⟩)] W fun e w' => e = .returned (.string m0) ∧ PS w' b G s3 ∧ Keep b w4 w' ∧ w'.cell? ⟨p, 0, none⟩ = some (.pointer (some ⟨b, 0, none⟩)) ∧ w'.cell? ⟨w2.heap.size, 2, none⟩ = some (Value.slice none 0 0) ∧ w'.ownsRow w.heap.size 9 1 (Value.slice none 0 0) 0 [] ∧ w'.frozen? ⟨w2.heap.size, 2, none⟩ = false ∧ w4.heap.size ≤ w'.heap.size from fun W hW => (hnn W (HS1.out.below hW)).mono (by
          rintro e w' ⟨a1, a2, a3⟩
          have a4 := (Keep.of_below (b := b) hW).trans a3
          exact ⟨a1, a2, a4, (HP4.out.keep HS1.out a4).c0, cell_of_block (a4.at HN4F.out (by omega)) 2, ownsRow_stay HOE.out (HS1.out.stay a4), frozen_of_block (a4.at HN4F.out (by omega)) 2, a4.size⟩))
        have hrd : ∀ k, (Value.slice none 0 0).ownBlock = some k → w.heap.size ≤ k := fun k hk => (HOE.out.lt k hk).1
        have hloS : Option.some (S) ≠ (Value.slice none 0 0).ownBlock := own_far HOE.out HN4S.out (by decide)
        have hloR : Option.some (w.heap.size) ≠ (Value.slice none 0 0).ownBlock := own_far HOE.out HN4R.out (by decide)
        have hloF : Option.some (w2.heap.size) ≠ (Value.slice none 0 0).ownBlock := own_far HOE.out HN4F.out (by decide)
        have hlop : Option.some p ≠ (Value.slice none 0 0).ownBlock := own_far HOE.out HP4.out (by decide)
        have hlob : Option.some b ≠ (Value.slice none 0 0).ownBlock := own_far HOE.out HS1.out.ty.choose_spec (by decide)
        have hpF : p ≠ w2.heap.size := HP4.out.ne HN4F.out (by decide)
        skip
        go_region_law (first
          | (refine step_append_lies _ (by rfl) _ _ _ (by rfl) w.heap.size 9 i0 _ 1 16 Tryz.underlying50 hi hz0 hz1 hz2 rfl (by decide) _ _ _ (by rfl) (hO4.alloc _) ⟨wc151.heap.size, 0, none⟩ 1 1 [.string m0] (by rfl) (by rfl) (cell_one_new _ _ _) (fun u hu => by simp at hu; subst hu; rfl) (by decide) (by unfold maxLen; omega) (by omega) (by simp; omega) (wc151.heap.size + 1) (by simp) ?_; intro g cap wd151 hown5 hgrow hat hg5; have e5 : wd151.cell? ⟨w2.heap.size, 2, none⟩ = some (Value.slice none 0 0) := (hgrow.cell_far ⟨w2.heap.size, 2, none⟩ (by simp; omega) hloF).trans (by first | exact (((Below.refl wc151.heap.size wc151).alloc (Nat.le_refl _) _).cell (show w2.heap.size < wc151.heap.size by omega)).trans d4 | exact ((((Below.refl wc151.heap.size wc151).alloc (Nat.le_refl _) _).drew).cell (show w2.heap.size < wc151.heap.size by omega)).trans d4); have cp5 : wd151.cell? ⟨p, 0, none⟩ = some (.pointer (some ⟨b, 0, none⟩)) := (hgrow.cell_far ⟨p, 0, none⟩ (by simp; omega) hlop).trans (by first | exact (((Below.refl wc151.heap.size wc151).alloc (Nat.le_refl _) _).cell (show p < wc151.heap.size by omega)).trans c4 | exact ((((Below.refl wc151.heap.size wc151).alloc (Nat.le_refl _) _).drew).cell (show p < wc151.heap.size by omega)).trans c4); have f5 : wd151.frozen? ⟨w2.heap.size, 2, none⟩ = false := (hgrow.frozen_far ⟨w2.heap.size, 2, none⟩ (by simp; omega) hloF).trans (by first | exact (((Below.refl wc151.heap.size wc151).alloc (Nat.le_refl _) _).frozen (show w2.heap.size < wc151.heap.size by omega)).trans f4 | exact ((((Below.refl wc151.heap.size wc151).alloc (Nat.le_refl _) _).drew).frozen (show w2.heap.size < wc151.heap.size by omega)).trans f4))
          | (go_simp; go_at_call 93; refine (HC.out _ ?_).mono ?_; (first | exact (Below.refl _ _).drew | exact Below.refl _ _); rintro e wc151 ⟨rfl, h4, k4, c4, d4, hO4, f4, z4⟩; have n4 : wc151.heap.size ≠ w2.heap.size := (by omega); have n4' : w2.heap.size < wc151.heap.size := (by omega); have n4p : p < wc151.heap.size := (by omega)))
        all_goals (
          have h4S := (k4.at HN4S.out (by omega))
          have g5S : wd151.heap[S]? = some (.cells #[vR, vO, vI, vU, vN'] 133 (0, 0)) := (hgrow.block _ (by simp; omega) hloS).trans ((alloc_other _ _ _ (lt_of_block h4S)).trans h4S)
          have h4R := (k4.at HN4R.out (by omega))
          have g5R : wd151.heap[w.heap.size]? = some (.cells #[.string ⟨#[]⟩, .slice none 0 0, .slice none 0 0, .pointer none] 163 (0, 0)) := (hgrow.block _ (by simp; omega) hloR).trans ((alloc_other _ _ _ (lt_of_block h4R)).trans h4R)
          have h4F := (k4.at HN4F.out (by omega))
          have g5F : wd151.heap[w2.heap.size]? = some (.cells #[.string n, .slice none 0 0, .slice none 0 0, .pointer none] 163 (0, 0)) := (hgrow.block _ (by simp; omega) hloF).trans ((alloc_other _ _ _ (lt_of_block h4F)).trans h4F)
          have hP4 := HP4.out.keep HS1.out k4
          have hK4 := HK4.out.trans (KeepY.of_keep k4 HS1.out.ty.choose_spec)
          have H152 := hide (((h4.alloc _).grown' hgrow hlob (fun e => by have := hrd G e.symm; omega)).set (F := w2.heap.size) (by omega) (by omega) 2 (Value.slice (some ⟨g, 0, none⟩) (0 + 1) cap))
          have HP152 := hide (((hP4.alloc _).grown' hgrow hlop).set g5F (by decide) 2 (Value.slice (some ⟨g, 0, none⟩) (0 + 1) cap))
          have HK152 := hide (((hK4.alloc _).grownNew hgrow (fun k hk => by have := hrd k hk; omega)).setNew ⟨w2.heap.size, 2, none⟩ (by simp only []; omega) (Value.slice (some ⟨g, 0, none⟩) (0 + 1) cap))
          have HO152 := hide (ownsRow_stay hown5 (Stay.setT (T := 9) (B := w.heap.size) g5F (by decide) 2 (Value.slice (some ⟨g, 0, none⟩) (0 + 1) cap)))
          have HN152S := hide (set_other_at g5S (show S ≠ w2.heap.size by omega) 2 (Value.slice (some ⟨g, 0, none⟩) (0 + 1) cap))
          have HN152R := hide (set_other_at g5R (show w.heap.size ≠ w2.heap.size by omega) 2 (Value.slice (some ⟨g, 0, none⟩) (0 + 1) cap))
          have HN152F := hide (show (wd151.setCell ⟨w2.heap.size, 2, none⟩ (Value.slice (some ⟨g, 0, none⟩) (0 + 1) cap)).heap[w2.heap.size]? = some (.cells #[.string n, .slice none 0 0, (Value.slice (some ⟨g, 0, none⟩) (0 + 1) cap), .pointer none] 163 (0, 0)) from setCell_block g5F 2 (Value.slice (some ⟨g, 0, none⟩) (0 + 1) cap))
          have HNM152 := hide (ownsRow_stay HNM4.out ((((HS1.out.stay k4).trans (Stay.alloc _)).trans (Stay.grown hgrow (hO4.alloc _) rfl (by decide))).trans (Stay.setT g5F (by decide) 2 (Value.slice (some ⟨g, 0, none⟩) (0 + 1) cap))))
          go_wp2_with fail
          go_meet
          exact ⟨_, _, HO152.out, H152.out, HP152.out, HN152F.out, HN152R.out, HN152S.out, HNM152.out, HK152.out⟩)
      case rest =>
        clear HS1 HP4 HK4 HOE hnn HN4S HN4R HN4F HNM4
        obtain ⟨g0, cap0, hO1, h1, hP1, hF1, hR1, hS1, hM1, hK1⟩ := hcut
        have hl1 := h1.len
        go_wp2_with fail
        go_loopg [] (ln s3) (fun k wr => ∃ (acc : List ByteArray) (v : Value) (s' : St) (f : Nat), ln s' ≤ k ∧ ln s' ≤ f ∧ wr.ownsRow w.heap.size 9 1 v acc.length (strsV acc) ∧ acc.length + ln s' ≤ 803 ∧ PS wr b G s' ∧ PP wr p b S ∧ wr.heap[w2.heap.size]? = some (.cells #[.string n, .slice none 0 0, v, .pointer none] 163 (0, 0)) ∧ wr.heap[w.heap.size]? = some (.cells #[.string ⟨#[]⟩, .slice none 0 0, .slice none 0 0, .pointer none] 163 (0, 0)) ∧ wr.heap[S]? = some (.cells #[vR, vO, vI, vU, vN'] 133 (0, 0)) ∧ wr.ownsRow S 152 1 vN' (names.length + 1) (strsV (names ++ [n])) ∧ KeepY b S w wr ∧ (m0 :: (pImplF 801 s3).1, (pImplF 801 s3).2) = (acc ++ (pImplF f s').1, (pImplF f s').2))
        case atStart => exact ⟨[m0], _, s3, 801, Nat.le_refl _, hl1, hO1, by simp; omega, h1, hP1, hF1, hR1, hS1, hM1, hK1, rfl⟩
        case round =>
          clear hO1 h1 hP1 hF1 hR1 hS1 hM1 hK1 hl1
          obtain ⟨acc, v, s', f, hlk, hlf, hO2, hac, h2, hP2, hF2, hR2, hS2, hM2, hK2, hrel⟩ := hrel
          obtain ⟨aI, cI, rfl⟩ := own_slice hO2
          have HM := hide hrel
          have H2 := hide h2
          have HP2 := hide hP2
          have HF2 := hide hF2
          have HR2 := hide hR2
          have HS2 := hide hS2
          have HM2 := hide hM2
          have HO2 := hide hO2
          have HK2 := hide hK2
          have c2 := hP2.c0
          have zF2 := lt_of_block hF2
          have zR2 := lt_of_block hR2
          have zS2 := lt_of_block hS2
          have zp2 := hP2.lt
          have zw2 := hK2.size
          have hc := sees_any wr b G s' 1 h2
          clear h2 hP2 hF2 hR2 hS2 hM2 hO2 hK2 hrel
          cases hx : isK s' 1
          · rw [hx] at hc
            have HE := hide (show PI = (acc, s') from by
              have := HM.out
              rw [pImplF_stop f s' hx] at this
              rw [HE0.out, this]; simp)
            clear hx HM
            go_wp2_with fail
            refine hc.mono ?_
            clear hc
            rintro e wA ⟨rfl, kA⟩
            have HX := hide (show _ ∧ _ ∧ _ ∧ _ ∧ _ ∧ _ ∧ _ ∧ _ from ⟨ownsRow_below HO2.out kA, H2.out.below kA, HP2.out.below kA, (kA.block _ zF2).trans HF2.out, (kA.block _ zR2).trans HR2.out, (kA.block _ zS2).trans HS2.out, ownsRow_below HM2.out kA, HK2.out.trans (KeepY.of_below kA)⟩)
            clear kA H2 HP2 HF2 HR2 HS2 HM2 HO2 HK2
            go_wp2_with fail
            go_meet
            exact ⟨acc, aI, cI, s', HE.out, by omega, HX.out.1, HX.out.2.1, HX.out.2.2.1, HX.out.2.2.2.1, HX.out.2.2.2.2.1, HX.out.2.2.2.2.2.1, HX.out.2.2.2.2.2.2.1, HX.out.2.2.2.2.2.2.2⟩
          · rw [hx] at hc
            have hlt' := ln_nmT1 s' hx
            obtain ⟨f', rfl⟩ : ∃ f', f = f' + 1 := ⟨f - 1, by omega⟩
            have HE := hide (show (m0 :: (pImplF 801 s3).1, (pImplF 801 s3).2) = (acc ++ (nm s' :: (pImplF f' (nmT s')).1), (pImplF f' (nmT s')).2) from by rw [HM.out, pImplF, if_pos hx])
            have hnn := fun W (h : PS W b G s') => needName_any W b G s' h
            clear hx HM
            generalize nm s' = m at *
            generalize nmT s' = s4 at *
            go_wp2_with fail
            refine hc.mono ?_
            clear hc
            rintro e wA ⟨rfl, kA⟩
            have H3 := hide (H2.out.below kA)
            have HP3 := hide (HP2.out.below kA)
            have HF3 := hide ((kA.block _ zF2).trans HF2.out)
            have HR3 := hide ((kA.block _ zR2).trans HR2.out)
            have HS3 := hide ((kA.block _ zS2).trans HS2.out)
            have HM3 := hide (ownsRow_below HM2.out kA)
            have HO3 := hide (ownsRow_below HO2.out kA)
            have HK3 := hide (HK2.out.trans (KeepY.of_below kA))
            have zF3 := lt_of_block HF3.out
            have zR3 := lt_of_block HR3.out
            have zS3 := lt_of_block HS3.out
            clear kA H2 HP2 HF2 HR2 HS2 HM2 HO2 HK2
            have dA : wA.cell? ⟨w2.heap.size, 2, none⟩ = some (Value.slice aI acc.length cI) := cell_of_block HF3.out 2
            have fA := frozen_of_block HF3.out 2
            have zA : w.heap.size ≤ wA.heap.size := HK3.out.size
            have cA := HP3.out.c0
            have zpA := HP3.out.lt
            have zFA := lt_of_block HF3.out
            have HC := hide (show ∀ W, Below wA.heap.size wA W → Calls Tryz.prog 93 #[.pointer (some ⟨b, 0, none⟩)] W fun e w' => e = .returned (.string m) ∧ PS w' b G s4 ∧ Keep b wA w' ∧ w'.cell? ⟨p, 0, none⟩ = some (.pointer (some ⟨b, 0, none⟩)) ∧ w'.cell? ⟨w2.heap.size, 2, none⟩ = some (Value.slice aI acc.length cI) ∧ w'.ownsRow w.heap.size 9 1 (Value.slice aI acc.length cI) acc.length (strsV acc) ∧ w'.frozen? ⟨w2.heap.size, 2, none⟩ = false ∧ wA.heap.size ≤ w'.heap.size from fun W hW => (hnn W (H3.out.below hW)).mono (by
              rintro e w' ⟨a1, a2, a3⟩
              have a4 := (Keep.of_below (b := b) hW).trans a3
              exact ⟨a1, a2, a4, (HP3.out.keep H3.out a4).c0, cell_of_block (a4.at HF3.out (by omega)) 2, ownsRow_stay HO3.out (H3.out.stay a4), frozen_of_block (a4.at HF3.out (by omega)) 2, a4.size⟩))
            have hrd : ∀ k, (Value.slice aI acc.length cI).ownBlock = some k → w.heap.size ≤ k := fun k hk => (HO3.out.lt k hk).1
            have hloF : Option.some (w2.heap.size) ≠ (Value.slice aI acc.length cI).ownBlock := own_far HO3.out HF3.out (by decide)
            have hloR : Option.some (w.heap.size) ≠ (Value.slice aI acc.length cI).ownBlock := own_far HO3.out HR3.out (by decide)
            have hloS : Option.some (S) ≠ (Value.slice aI acc.length cI).ownBlock := own_far HO3.out HS3.out (by decide)
            have hlop : Option.some p ≠ (Value.slice aI acc.length cI).ownBlock := own_far HO3.out HP3.out (by decide)
            have hlob : Option.some b ≠ (Value.slice aI acc.length cI).ownBlock := own_far HO3.out H3.out.ty.choose_spec (by decide)
            have hpF : p ≠ w2.heap.size := HP3.out.ne HF3.out (by decide)
            go_wp2_with fail
            go_region_law (first
              | (refine step_append_lies _ (by rfl) _ _ _ (by rfl) w.heap.size 9 i0 _ 1 16 Tryz.underlying50 hi hz0 hz1 hz2 rfl (by decide) _ _ _ (by rfl) (hO4.alloc _) ⟨wc501.heap.size, 0, none⟩ 1 1 [.string m] (by rfl) (by rfl) (cell_one_new _ _ _) (fun u hu => by simp at hu; subst hu; rfl) (by decide) (by unfold maxLen; omega) (by omega) (by simp; omega) (wc501.heap.size + 1) (by simp) ?_; intro g cap wd501 hown5 hgrow hat hg5; have e5 : wd501.cell? ⟨w2.heap.size, 2, none⟩ = some (Value.slice aI acc.length cI) := (hgrow.cell_far ⟨w2.heap.size, 2, none⟩ (by simp; omega) hloF).trans (by first | exact (((Below.refl wc501.heap.size wc501).alloc (Nat.le_refl _) _).cell (show w2.heap.size < wc501.heap.size by omega)).trans d4 | exact ((((Below.refl wc501.heap.size wc501).alloc (Nat.le_refl _) _).drew).cell (show w2.heap.size < wc501.heap.size by omega)).trans d4); have cp5 : wd501.cell? ⟨p, 0, none⟩ = some (.pointer (some ⟨b, 0, none⟩)) := (hgrow.cell_far ⟨p, 0, none⟩ (by simp; omega) hlop).trans (by first | exact (((Below.refl wc501.heap.size wc501).alloc (Nat.le_refl _) _).cell (show p < wc501.heap.size by omega)).trans c4 | exact ((((Below.refl wc501.heap.size wc501).alloc (Nat.le_refl _) _).drew).cell (show p < wc501.heap.size by omega)).trans c4); have f5 : wd501.frozen? ⟨w2.heap.size, 2, none⟩ = false := (hgrow.frozen_far ⟨w2.heap.size, 2, none⟩ (by simp; omega) hloF).trans (by first | exact (((Below.refl wc501.heap.size wc501).alloc (Nat.le_refl _) _).frozen (show w2.heap.size < wc501.heap.size by omega)).trans f4 | exact ((((Below.refl wc501.heap.size wc501).alloc (Nat.le_refl _) _).drew).frozen (show w2.heap.size < wc501.heap.size by omega)).trans f4))
              | (go_simp; go_at_call 93; refine (HC.out _ ?_).mono ?_; (first | exact (Below.refl _ _).drew | exact Below.refl _ _); rintro e wc501 ⟨rfl, h4, k4, c4, d4, hO4, f4, z4⟩; have n4 : wc501.heap.size ≠ w2.heap.size := (by omega); have n4' : w2.heap.size < wc501.heap.size := (by omega); have n4p : p < wc501.heap.size := (by omega)))
            all_goals (
              have h4F := (k4.at HF3.out (by omega))
              have g5F : wd501.heap[w2.heap.size]? = some (.cells #[.string n, .slice none 0 0, .slice aI acc.length cI, .pointer none] 163 (0, 0)) := (hgrow.block _ (by simp; omega) hloF).trans ((alloc_other _ _ _ (lt_of_block h4F)).trans h4F)
              have h4R := (k4.at HR3.out (by omega))
              have g5R : wd501.heap[w.heap.size]? = some (.cells #[.string ⟨#[]⟩, .slice none 0 0, .slice none 0 0, .pointer none] 163 (0, 0)) := (hgrow.block _ (by simp; omega) hloR).trans ((alloc_other _ _ _ (lt_of_block h4R)).trans h4R)
              have h4S := (k4.at HS3.out (by omega))
              have g5S : wd501.heap[S]? = some (.cells #[vR, vO, vI, vU, vN'] 133 (0, 0)) := (hgrow.block _ (by simp; omega) hloS).trans ((alloc_other _ _ _ (lt_of_block h4S)).trans h4S)
              have hP4 := HP3.out.keep H3.out k4
              have hK4 := HK3.out.trans (KeepY.of_keep k4 H3.out.ty.choose_spec)
              have H502 := hide (((h4.alloc _).grown' hgrow hlob (fun e => by have := hrd G e.symm; omega)).set (F := w2.heap.size) (by omega) (by omega) 2 (Value.slice (some ⟨g, 0, none⟩) (acc.length + 1) cap))
              have HP502 := hide (((hP4.alloc _).grown' hgrow hlop).set g5F (by decide) 2 (Value.slice (some ⟨g, 0, none⟩) (acc.length + 1) cap))
              have HK502 := hide (((hK4.alloc _).grownNew hgrow (fun k hk => by have := hrd k hk; omega)).setNew ⟨w2.heap.size, 2, none⟩ (by simp only []; omega) (Value.slice (some ⟨g, 0, none⟩) (acc.length + 1) cap))
              have HO502 := hide (ownsRow_stay hown5 (Stay.setT (T := 9) (B := w.heap.size) g5F (by decide) 2 (Value.slice (some ⟨g, 0, none⟩) (acc.length + 1) cap)))
              have HN502F := hide (show (wd501.setCell ⟨w2.heap.size, 2, none⟩ (Value.slice (some ⟨g, 0, none⟩) (acc.length + 1) cap)).heap[w2.heap.size]? = some (.cells #[.string n, .slice none 0 0, (Value.slice (some ⟨g, 0, none⟩) (acc.length + 1) cap), .pointer none] 163 (0, 0)) from setCell_block g5F 2 (Value.slice (some ⟨g, 0, none⟩) (acc.length + 1) cap))
              have HN502R := hide (set_other_at g5R (show w.heap.size ≠ w2.heap.size by omega) 2 (Value.slice (some ⟨g, 0, none⟩) (acc.length + 1) cap))
              have HN502S := hide (set_other_at g5S (show S ≠ w2.heap.size by omega) 2 (Value.slice (some ⟨g, 0, none⟩) (acc.length + 1) cap))
              have HNM502 := hide (ownsRow_stay HM3.out ((((H3.out.stay k4).trans (Stay.alloc _)).trans (Stay.grown hgrow (hO4.alloc _) rfl (by decide))).trans (Stay.setT g5F (by decide) 2 (Value.slice (some ⟨g, 0, none⟩) (acc.length + 1) cap))))
              have HX := hide (show _ ∧ _ ∧ _ ∧ _ ∧ _ ∧ _ ∧ _ ∧ _ from ⟨HO502.out, H502.out, HP502.out, HN502F.out, HN502R.out, HN502S.out, HNM502.out, HK502.out⟩)
              clear hgrow hown5 h4 k4 hO4 H502 HP502 HK502 HO502 HN502F HN502R HN502S HNM502 g5F g5R g5S h4F h4R h4S hP4 hK4
              go_wp2_with fail
              go_roundg (ln s4)
              case measure => omega
              case rel => exact ⟨acc ++ [m], _, s4, f', Nat.le_refl _, by omega, by rw [strsV_snoc, List.length_append]; exact HX.out.1, by simp; omega, HX.out.2.1, HX.out.2.2.1, HX.out.2.2.2.1, HX.out.2.2.2.2.1, HX.out.2.2.2.2.2.1, HX.out.2.2.2.2.2.2.1, HX.out.2.2.2.2.2.2.2, by rw [HE.out]; simp⟩)
  case rest =>
    clear H4 HP4 HK4 HOE HN4S HN4R HN4F HNM4
    obtain ⟨impl, aA, cA, s2, hpi, himl, hO1, h1, hP1, hF1, hR1, hS1, hM1, hK1⟩ := hcut
    have HPI := hide hpi
    clear hpi
    have hTk := take_any wc b G s2 11 h1
    have c1 := hP1.c0
    have zF1 := lt_of_block hF1
    have zR1 := lt_of_block hR1
    have zS1 := lt_of_block hS1
    have zp1 := hP1.lt
    have zw1 := hK1.size
    have zb1 := h1.lt
    have zg1 := h1.glt
    have H1 := hide h1
    have HP1 := hide hP1
    have HF1 := hide hF1
    have HR1 := hide hR1
    have HS1 := hide hS1
    have HNM1 := hide hM1
    have HO1 := hide hO1
    have HK1 := hide hK1
    clear h1 hP1 hF1 hR1 hS1 hM1 hO1 hK1
    have HPR := hide (show pRows s2 = (if isK s2 11 = true then (some (pRule 802 (pRows2 (tl s2))).1, mustT (pRule 802 (pRows2 (tl s2))).2 (isK (pRule 802 (pRows2 (tl s2))).2 8)) else (none, s2)) from rfl)
    have HQ2 := hide (show FF = (⟨n, (pFields (pRows s2).2).1, impl, (pRows s2).1⟩, (pFields (pRows s2).2).2) from by rw [HQ.out, HPI.out])
    generalize pRows s2 = RR at *
    clear HQ HPI
    cases hx : isK s2 11
    · skip
      rw [hx] at hTk
      have HQ3 := hide (show FF = (⟨n, (pFields s2).1, impl, none⟩, (pFields s2).2) from by rw [HQ2.out, HPR.out, if_neg (by rw [hx]; simp)])
      clear hx HPR HQ2
      go_wp2_with fail
      refine hTk.mono ?_
      clear hTk
      rintro e w601 ⟨rfl, h601, k601⟩
      have HP601 := hide (HP1.out.keep H1.out k601)
      have HK601 := hide (HK1.out.trans (KeepY.of_keep k601 H1.out.ty.choose_spec))
      have HN601F := hide (k601.at HF1.out (by omega))
      have z601F := lt_of_block HN601F.out
      have HN601R := hide (k601.at HR1.out (by omega))
      have z601R := lt_of_block HN601R.out
      have HN601S := hide (k601.at HS1.out (by omega))
      have z601S := lt_of_block HN601S.out
      have HNM601 := hide (ownsRow_stay HNM1.out (H1.out.stay k601))
      have HOA601 := hide (ownsRow_stay HO1.out (H1.out.stay k601))
      have H601 := hide (show PS w601 b G s2 from h601)
      have c601 := HP601.out.c0
      have zw601 := HK601.out.size
      have zp601 := HP601.out.lt
      have zb601 := H601.out.lt
      clear H1 HP1 HK1 HF1 HR1 HS1 HNM1 HO1 h601 k601
      have hf := readFields_any w601 p b S G s2 HP601.out H601.out
      generalize pFields s2 = ff at *
      go_wp2_with fail
      refine hf.mono ?_
      clear hf
      rintro e w602 ⟨v, rfl, t0, hfl, h602, k602⟩
      have HP602 := hide (HP601.out.keep H601.out k602)
      have HK602 := hide (HK601.out.trans (KeepY.of_keep k602 H601.out.ty.choose_spec))
      have HN602F := hide (k602.at HN601F.out (by omega))
      have z602F := lt_of_block HN602F.out
      have HN602R := hide (k602.at HN601R.out (by omega))
      have z602R := lt_of_block HN602R.out
      have HN602S := hide (k602.at HN601S.out (by omega))
      have z602S := lt_of_block HN602S.out
      have HNM602 := hide (ownsRow_stay HNM601.out (H601.out.stay k602))
      have HOA602 := hide (ownsRow_stay HOA601.out (H601.out.stay k602))
      have H602 := hide (show PS w602 b G ff.2 from h602)
      have c602 := HP602.out.c0
      have zw602 := HK602.out.size
      have zp602 := HP602.out.lt
      have zb602 := H602.out.lt
      clear H601 HP601 HK601 HN601F HN601R HN601S HNM601 HOA601 h602 k602
      obtain ⟨L0, eL0, ho0, ht0⟩ := id t0
      obtain ⟨aV, cV, rfl⟩ := own_slice ho0
      clear ho0 ht0
      have HT := hide (t0.mono (C := w.heap.size) (by first | (simp; omega) | omega))
      clear t0
      have d603 : w602.cell? ⟨w2.heap.size, 1, none⟩ = some (.slice none 0 0) := cell_of_block HN602F.out 1
      have f604 := frozen_of_block HN602F.out 1
      have H605 := hide (H602.out.set (F := w2.heap.size) (by omega) (by omega) 1 (.slice aV L0.length cV))
      have HP605 := hide (HP602.out.set HN602F.out (by decide) 1 (.slice aV L0.length cV))
      have HK605 := hide (HK602.out.setNew ⟨w2.heap.size, 1, none⟩ (by (try simp only []); omega) (.slice aV L0.length cV))
      have HN605F := hide (show (w602.setCell ⟨w2.heap.size, 1, none⟩ (.slice aV L0.length cV)).heap[w2.heap.size]? = some (.cells #[.string n, .slice aV L0.length cV, .slice aA impl.length cA, .pointer none] 163 (0, 0)) from setCell_block HN602F.out 1 (.slice aV L0.length cV))
      have HN605R := hide (set_other_at HN602R.out (show w.heap.size ≠ w2.heap.size by omega) 1 (.slice aV L0.length cV))
      have HN605S := hide (set_other_at HN602S.out (show S ≠ w2.heap.size by omega) 1 (.slice aV L0.length cV))
      have HNM605 := hide (ownsRow_stay HNM602.out (Stay.setT HN602F.out (by decide) 1 (.slice aV L0.length cV)))
      have HOA605 := hide (ownsRow_stay HOA602.out (Stay.setT HN602F.out (by decide) 1 (.slice aV L0.length cV)))
      have HT605 := hide (HT.out.stays (Stay.setT HN602F.out (by decide) 1 (.slice aV L0.length cV)) (Stay.setT HN602F.out (by decide) 1 (.slice aV L0.length cV)))
      clear H602 HP602 HK602 HN602F HN602R HN602S HNM602 HOA602 HT
      have d606 : (w602.setCell ⟨w2.heap.size, 1, none⟩ (.slice aV L0.length cV)).cell? ⟨w2.heap.size, 0, none⟩ = some (.string n) := cell_of_block HN605F.out 0
      have d607 : (w602.setCell ⟨w2.heap.size, 1, none⟩ (.slice aV L0.length cV)).cell? ⟨w2.heap.size, 1, none⟩ = some (.slice aV L0.length cV) := cell_of_block HN605F.out 1
      have d608 : (w602.setCell ⟨w2.heap.size, 1, none⟩ (.slice aV L0.length cV)).cell? ⟨w2.heap.size, 2, none⟩ = some (.slice aA impl.length cA) := cell_of_block HN605F.out 2
      have d609 : (w602.setCell ⟨w2.heap.size, 1, none⟩ (.slice aV L0.length cV)).cell? ⟨w2.heap.size, 3, none⟩ = some (.pointer none) := cell_of_block HN605F.out 3
      have d610 : (w602.setCell ⟨w2.heap.size, 1, none⟩ (.slice aV L0.length cV)).cell? ⟨w.heap.size, 0, none⟩ = some (.string ⟨#[]⟩) := cell_of_block HN605R.out 0
      have d611 : (w602.setCell ⟨w2.heap.size, 1, none⟩ (.slice aV L0.length cV)).cell? ⟨w.heap.size, 1, none⟩ = some (.slice none 0 0) := cell_of_block HN605R.out 1
      have d612 : (w602.setCell ⟨w2.heap.size, 1, none⟩ (.slice aV L0.length cV)).cell? ⟨w.heap.size, 2, none⟩ = some (.slice none 0 0) := cell_of_block HN605R.out 2
      have d613 : (w602.setCell ⟨w2.heap.size, 1, none⟩ (.slice aV L0.length cV)).cell? ⟨w.heap.size, 3, none⟩ = some (.pointer none) := cell_of_block HN605R.out 3
      have f614 := frozen_of_block HN605R.out 0
      have f615 := frozen_of_block HN605R.out 1
      have f616 := frozen_of_block HN605R.out 2
      have f617 := frozen_of_block HN605R.out 3
      have H618 := hide (H605.out.set (F := w.heap.size) (by omega) (by omega) 0 (.string n))
      have HP618 := hide (HP605.out.set HN605R.out (by decide) 0 (.string n))
      have HK618 := hide (HK605.out.setNew ⟨w.heap.size, 0, none⟩ (by (try simp only []); omega) (.string n))
      have HN618F := hide (set_other_at HN605F.out (show w2.heap.size ≠ w.heap.size by omega) 0 (.string n))
      have HN618R := hide (show ((w602.setCell ⟨w2.heap.size, 1, none⟩ (.slice aV L0.length cV)).setCell ⟨w.heap.size, 0, none⟩ (.string n)).heap[w.heap.size]? = some (.cells #[.string n, .slice none 0 0, .slice none 0 0, .pointer none] 163 (0, 0)) from setCell_block HN605R.out 0 (.string n))
      have HN618S := hide (set_other_at HN605S.out (show S ≠ w.heap.size by omega) 0 (.string n))
      have HNM618 := hide (ownsRow_stay HNM605.out (Stay.setT HN605R.out (by decide) 0 (.string n)))
      have HOA618 := hide (ownsRow_stay HOA605.out (Stay.setT HN605R.out (by decide) 0 (.string n)))
      have HT618 := hide (HT605.out.stays (Stay.setT HN605R.out (by decide) 0 (.string n)) (Stay.setT HN605R.out (by decide) 0 (.string n)))
      clear H605 HP605 HK605 HN605F HN605R HN605S HNM605 HOA605 HT605
      have H619 := hide (H618.out.set (F := w.heap.size) (by omega) (by omega) 1 (.slice aV L0.length cV))
      have HP619 := hide (HP618.out.set HN618R.out (by decide) 1 (.slice aV L0.length cV))
      have HK619 := hide (HK618.out.setNew ⟨w.heap.size, 1, none⟩ (by (try simp only []); omega) (.slice aV L0.length cV))
      have HN619F := hide (set_other_at HN618F.out (show w2.heap.size ≠ w.heap.size by omega) 1 (.slice aV L0.length cV))
      have HN619R := hide (show (((w602.setCell ⟨w2.heap.size, 1, none⟩ (.slice aV L0.length cV)).setCell ⟨w.heap.size, 0, none⟩ (.string n)).setCell ⟨w.heap.size, 1, none⟩ (.slice aV L0.length cV)).heap[w.heap.size]? = some (.cells #[.string n, .slice aV L0.length cV, .slice none 0 0, .pointer none] 163 (0, 0)) from setCell_block HN618R.out 1 (.slice aV L0.length cV))
      have HN619S := hide (set_other_at HN618S.out (show S ≠ w.heap.size by omega) 1 (.slice aV L0.length cV))
      have HNM619 := hide (ownsRow_stay HNM618.out (Stay.setT HN618R.out (by decide) 1 (.slice aV L0.length cV)))
      have HOA619 := hide (ownsRow_stay HOA618.out (Stay.setT HN618R.out (by decide) 1 (.slice aV L0.length cV)))
      have HT619 := hide (HT618.out.stays (Stay.setT HN618R.out (by decide) 1 (.slice aV L0.length cV)) (Stay.setT HN618R.out (by decide) 1 (.slice aV L0.length cV)))
      clear H618 HP618 HK618 HN618F HN618R HN618S HNM618 HOA618 HT618
      have H620 := hide (H619.out.set (F := w.heap.size) (by omega) (by omega) 2 (.slice aA impl.length cA))
      have HP620 := hide (HP619.out.set HN619R.out (by decide) 2 (.slice aA impl.length cA))
      have HK620 := hide (HK619.out.setNew ⟨w.heap.size, 2, none⟩ (by (try simp only []); omega) (.slice aA impl.length cA))
      have HN620F := hide (set_other_at HN619F.out (show w2.heap.size ≠ w.heap.size by omega) 2 (.slice aA impl.length cA))
      have HN620R := hide (show ((((w602.setCell ⟨w2.heap.size, 1, none⟩ (.slice aV L0.length cV)).setCell ⟨w.heap.size, 0, none⟩ (.string n)).setCell ⟨w.heap.size, 1, none⟩ (.slice aV L0.length cV)).setCell ⟨w.heap.size, 2, none⟩ (.slice aA impl.length cA)).heap[w.heap.size]? = some (.cells #[.string n, .slice aV L0.length cV, .slice aA impl.length cA, .pointer none] 163 (0, 0)) from setCell_block HN619R.out 2 (.slice aA impl.length cA))
      have HN620S := hide (set_other_at HN619S.out (show S ≠ w.heap.size by omega) 2 (.slice aA impl.length cA))
      have HNM620 := hide (ownsRow_stay HNM619.out (Stay.setT HN619R.out (by decide) 2 (.slice aA impl.length cA)))
      have HOA620 := hide (ownsRow_stay HOA619.out (Stay.setT HN619R.out (by decide) 2 (.slice aA impl.length cA)))
      have HT620 := hide (HT619.out.stays (Stay.setT HN619R.out (by decide) 2 (.slice aA impl.length cA)) (Stay.setT HN619R.out (by decide) 2 (.slice aA impl.length cA)))
      clear H619 HP619 HK619 HN619F HN619R HN619S HNM619 HOA619 HT619
      have H621 := hide (H620.out.set (F := w.heap.size) (by omega) (by omega) 3 (.pointer none))
      have HP621 := hide (HP620.out.set HN620R.out (by decide) 3 (.pointer none))
      have HK621 := hide (HK620.out.setNew ⟨w.heap.size, 3, none⟩ (by (try simp only []); omega) (.pointer none))
      have HN621F := hide (set_other_at HN620F.out (show w2.heap.size ≠ w.heap.size by omega) 3 (.pointer none))
      have HN621R := hide (show (((((w602.setCell ⟨w2.heap.size, 1, none⟩ (.slice aV L0.length cV)).setCell ⟨w.heap.size, 0, none⟩ (.string n)).setCell ⟨w.heap.size, 1, none⟩ (.slice aV L0.length cV)).setCell ⟨w.heap.size, 2, none⟩ (.slice aA impl.length cA)).setCell ⟨w.heap.size, 3, none⟩ (.pointer none)).heap[w.heap.size]? = some (.cells #[.string n, .slice aV L0.length cV, .slice aA impl.length cA, .pointer none] 163 (0, 0)) from setCell_block HN620R.out 3 (.pointer none))
      have HN621S := hide (set_other_at HN620S.out (show S ≠ w.heap.size by omega) 3 (.pointer none))
      have HNM621 := hide (ownsRow_stay HNM620.out (Stay.setT HN620R.out (by decide) 3 (.pointer none)))
      have HOA621 := hide (ownsRow_stay HOA620.out (Stay.setT HN620R.out (by decide) 3 (.pointer none)))
      have HT621 := hide (HT620.out.stays (Stay.setT HN620R.out (by decide) 3 (.pointer none)) (Stay.setT HN620R.out (by decide) 3 (.pointer none)))
      clear H620 HP620 HK620 HN620F HN620R HN620S HNM620 HOA620 HT620
      go_wp2_with fail
      rw [HQ3.out]
      exact bodyPost_ret (v := .agg #[.string n, .slice aV L0.length cV, .slice aA impl.length cA, .pointer none]) (by simp [results, Tryz.results95, go_sem, *]) rfl ⟨_, _, _, rfl, HT621.out, hfl, HOA621.out, himl, rfl, ⟨H621.out, HP621.out, HK621.out, _, HN621S.out, by rw [List.length_append]; exact HNM621.out⟩⟩
    · skip
      rw [hx] at hTk
      have HQ3 := hide (show FF = (⟨n, (pFields (mustT (pRule 802 (pRows2 (tl s2))).2 (isK (pRule 802 (pRows2 (tl s2))).2 8))).1, impl, some (pRule 802 (pRows2 (tl s2))).1⟩, (pFields (mustT (pRule 802 (pRows2 (tl s2))).2 (isK (pRule 802 (pRows2 (tl s2))).2 8))).2) from by rw [HQ2.out, HPR.out, if_pos hx])
      clear hx HPR HQ2
      unfold pRows2 at HQ3
      go_wp2_with fail
      refine hTk.mono ?_
      clear hTk
      rintro e w601 ⟨rfl, h601, k601⟩
      have HP601 := hide (HP1.out.keep H1.out k601)
      have HK601 := hide (HK1.out.trans (KeepY.of_keep k601 H1.out.ty.choose_spec))
      have HN601F := hide (k601.at HF1.out (by omega))
      have z601F := lt_of_block HN601F.out
      have HN601R := hide (k601.at HR1.out (by omega))
      have z601R := lt_of_block HN601R.out
      have HN601S := hide (k601.at HS1.out (by omega))
      have z601S := lt_of_block HN601S.out
      have HNM601 := hide (ownsRow_stay HNM1.out (H1.out.stay k601))
      have HOA601 := hide (ownsRow_stay HO1.out (H1.out.stay k601))
      have H601 := hide (show PS w601 b G (tl s2) from h601)
      have c601 := HP601.out.c0
      have zw601 := HK601.out.size
      have zp601 := HP601.out.lt
      have zb601 := H601.out.lt
      clear H1 HP1 HK1 HF1 HR1 HS1 HNM1 HO1 h601 k601
      have hw := needW_any w601 b G (tl s2) bRows H601.out
      go_wp2_with fail
      refine hw.mono ?_
      clear hw
      rintro e w602 ⟨rfl, h602, k602⟩
      have HP602 := hide (HP601.out.keep H601.out k602)
      have HK602 := hide (HK601.out.trans (KeepY.of_keep k602 H601.out.ty.choose_spec))
      have HN602F := hide (k602.at HN601F.out (by omega))
      have z602F := lt_of_block HN602F.out
      have HN602R := hide (k602.at HN601R.out (by omega))
      have z602R := lt_of_block HN602R.out
      have HN602S := hide (k602.at HN601S.out (by omega))
      have z602S := lt_of_block HN602S.out
      have HNM602 := hide (ownsRow_stay HNM601.out (H601.out.stay k602))
      have HOA602 := hide (ownsRow_stay HOA601.out (H601.out.stay k602))
      have H602 := hide (show PS w602 b G (mustT (tl s2) (isW (tl s2) bRows)) from h602)
      have c602 := HP602.out.c0
      have zw602 := HK602.out.size
      have zp602 := HP602.out.lt
      have zb602 := H602.out.lt
      clear H601 HP601 HK601 HN601F HN601R HN601S HNM601 HOA601 h602 k602
      have hn := need_any w602 b G (mustT (tl s2) (isW (tl s2) bRows)) 7 H602.out
      go_wp2_with fail
      refine hn.mono ?_
      clear hn
      rintro e w603 ⟨rfl, h603, k603⟩
      have HP603 := hide (HP602.out.keep H602.out k603)
      have HK603 := hide (HK602.out.trans (KeepY.of_keep k603 H602.out.ty.choose_spec))
      have HN603F := hide (k603.at HN602F.out (by omega))
      have z603F := lt_of_block HN603F.out
      have HN603R := hide (k603.at HN602R.out (by omega))
      have z603R := lt_of_block HN603R.out
      have HN603S := hide (k603.at HN602S.out (by omega))
      have z603S := lt_of_block HN603S.out
      have HNM603 := hide (ownsRow_stay HNM602.out (H602.out.stay k603))
      have HOA603 := hide (ownsRow_stay HOA602.out (H602.out.stay k603))
      have H603 := hide (show PS w603 b G (mustT (mustT (tl s2) (isW (tl s2) bRows)) (isK (mustT (tl s2) (isW (tl s2) bRows)) 7)) from h603)
      have c603 := HP603.out.c0
      have zw603 := HK603.out.size
      have zp603 := HP603.out.lt
      have zb603 := H603.out.lt
      clear H602 HP602 HK602 HN602F HN602R HN602S HNM602 HOA602 h603 k603
      have hr := rule_any w603 p b S G (mustT (mustT (tl s2) (isW (tl s2) bRows)) (isK (mustT (tl s2) (isW (tl s2) bRows)) 7)) HP603.out H603.out
      generalize pRule 802 (mustT (mustT (tl s2) (isW (tl s2) bRows)) (isK (mustT (tl s2) (isW (tl s2) bRows)) 7)) = rr at *
      go_wp2_with fail
      refine hr.mono ?_
      clear hr
      rintro e w604 ⟨u, rfl, t0, h604, k604⟩
      have HP604 := hide (HP603.out.keep H603.out k604)
      have HK604 := hide (HK603.out.trans (KeepY.of_keep k604 H603.out.ty.choose_spec))
      have HN604F := hide (k604.at HN603F.out (by omega))
      have z604F := lt_of_block HN604F.out
      have HN604R := hide (k604.at HN603R.out (by omega))
      have z604R := lt_of_block HN604R.out
      have HN604S := hide (k604.at HN603S.out (by omega))
      have z604S := lt_of_block HN604S.out
      have HNM604 := hide (ownsRow_stay HNM603.out (H603.out.stay k604))
      have HOA604 := hide (ownsRow_stay HOA603.out (H603.out.stay k604))
      have H604 := hide (show PS w604 b G rr.2 from h604)
      have c604 := HP604.out.c0
      have zw604 := HK604.out.size
      have zp604 := HP604.out.lt
      have zb604 := H604.out.lt
      clear H603 HP603 HK603 HN603F HN603R HN603S HNM603 HOA603 h604 k604
      obtain ⟨ku, rfl⟩ := t0.ptr
      have HRU := hide (show RuleAt _ w.heap.size (.pointer (some ⟨ku, 0, none⟩)) (some rr.1) from t0.imp (fun k hk => by omega))
      clear t0
      have d605 : w604.cell? ⟨w2.heap.size, 3, none⟩ = some (.pointer none) := cell_of_block HN604F.out 3
      have f606 := frozen_of_block HN604F.out 3
      have H607 := hide (H604.out.set (F := w2.heap.size) (by omega) (by omega) 3 (.pointer (some ⟨ku, 0, none⟩)))
      have HP607 := hide (HP604.out.set HN604F.out (by decide) 3 (.pointer (some ⟨ku, 0, none⟩)))
      have HK607 := hide (HK604.out.setNew ⟨w2.heap.size, 3, none⟩ (by (try simp only []); omega) (.pointer (some ⟨ku, 0, none⟩)))
      have HN607F := hide (show (w604.setCell ⟨w2.heap.size, 3, none⟩ (.pointer (some ⟨ku, 0, none⟩))).heap[w2.heap.size]? = some (.cells #[.string n, .slice none 0 0, .slice aA impl.length cA, .pointer (some ⟨ku, 0, none⟩)] 163 (0, 0)) from setCell_block HN604F.out 3 (.pointer (some ⟨ku, 0, none⟩)))
      have HN607R := hide (set_other_at HN604R.out (show w.heap.size ≠ w2.heap.size by omega) 3 (.pointer (some ⟨ku, 0, none⟩)))
      have HN607S := hide (set_other_at HN604S.out (show S ≠ w2.heap.size by omega) 3 (.pointer (some ⟨ku, 0, none⟩)))
      have HNM607 := hide (ownsRow_stay HNM604.out (Stay.setT HN604F.out (by decide) 3 (.pointer (some ⟨ku, 0, none⟩))))
      have HOA607 := hide (ownsRow_stay HOA604.out (Stay.setT HN604F.out (by decide) 3 (.pointer (some ⟨ku, 0, none⟩))))
      have HRU607 := hide (HRU.out.stays (Stay.setT HN604F.out (by decide) 3 (.pointer (some ⟨ku, 0, none⟩))) (Stay.setT HN604F.out (by decide) 3 (.pointer (some ⟨ku, 0, none⟩))))
      clear H604 HP604 HK604 HN604F HN604R HN604S HNM604 HOA604 HRU
      have hm := need_any (w604.setCell ⟨w2.heap.size, 3, none⟩ (.pointer (some ⟨ku, 0, none⟩))) b G rr.2 8 H607.out
      go_wp2_with fail
      refine hm.mono ?_
      clear hm
      rintro e w608 ⟨rfl, h608, k608⟩
      have HP608 := hide (HP607.out.keep H607.out k608)
      have HK608 := hide (HK607.out.trans (KeepY.of_keep k608 H607.out.ty.choose_spec))
      have HN608F := hide (k608.at HN607F.out (by omega))
      have z608F := lt_of_block HN608F.out
      have HN608R := hide (k608.at HN607R.out (by omega))
      have z608R := lt_of_block HN608R.out
      have HN608S := hide (k608.at HN607S.out (by omega))
      have z608S := lt_of_block HN608S.out
      have HNM608 := hide (ownsRow_stay HNM607.out (H607.out.stay k608))
      have HOA608 := hide (ownsRow_stay HOA607.out (H607.out.stay k608))
      have HRU608 := hide (HRU607.out.stays (H607.out.stay k608) (H607.out.stay k608))
      have H608 := hide (show PS w608 b G (mustT rr.2 (isK rr.2 8)) from h608)
      have c608 := HP608.out.c0
      have zw608 := HK608.out.size
      have zp608 := HP608.out.lt
      have zb608 := H608.out.lt
      clear H607 HP607 HK607 HN607F HN607R HN607S HNM607 HOA607 HRU607 h608 k608
      have hf := readFields_any w608 p b S G (mustT rr.2 (isK rr.2 8)) HP608.out H608.out
      generalize pFields (mustT rr.2 (isK rr.2 8)) = ff at *
      go_wp2_with fail
      refine hf.mono ?_
      clear hf
      rintro e w609 ⟨v, rfl, t0, hfl, h609, k609⟩
      have HP609 := hide (HP608.out.keep H608.out k609)
      have HK609 := hide (HK608.out.trans (KeepY.of_keep k609 H608.out.ty.choose_spec))
      have HN609F := hide (k609.at HN608F.out (by omega))
      have z609F := lt_of_block HN609F.out
      have HN609R := hide (k609.at HN608R.out (by omega))
      have z609R := lt_of_block HN609R.out
      have HN609S := hide (k609.at HN608S.out (by omega))
      have z609S := lt_of_block HN609S.out
      have HNM609 := hide (ownsRow_stay HNM608.out (H608.out.stay k609))
      have HOA609 := hide (ownsRow_stay HOA608.out (H608.out.stay k609))
      have HRU609 := hide (HRU608.out.stays (H608.out.stay k609) (H608.out.stay k609))
      have H609 := hide (show PS w609 b G ff.2 from h609)
      have c609 := HP609.out.c0
      have zw609 := HK609.out.size
      have zp609 := HP609.out.lt
      have zb609 := H609.out.lt
      clear H608 HP608 HK608 HN608F HN608R HN608S HNM608 HOA608 HRU608 h609 k609
      obtain ⟨L0, eL0, ho0, ht0⟩ := id t0
      obtain ⟨aV, cV, rfl⟩ := own_slice ho0
      clear ho0 ht0
      have HT := hide (t0.mono (C := w.heap.size) (by first | (simp; omega) | omega))
      clear t0
      have d610 : w609.cell? ⟨w2.heap.size, 1, none⟩ = some (.slice none 0 0) := cell_of_block HN609F.out 1
      have f611 := frozen_of_block HN609F.out 1
      have H612 := hide (H609.out.set (F := w2.heap.size) (by omega) (by omega) 1 (.slice aV L0.length cV))
      have HP612 := hide (HP609.out.set HN609F.out (by decide) 1 (.slice aV L0.length cV))
      have HK612 := hide (HK609.out.setNew ⟨w2.heap.size, 1, none⟩ (by (try simp only []); omega) (.slice aV L0.length cV))
      have HN612F := hide (show (w609.setCell ⟨w2.heap.size, 1, none⟩ (.slice aV L0.length cV)).heap[w2.heap.size]? = some (.cells #[.string n, .slice aV L0.length cV, .slice aA impl.length cA, .pointer (some ⟨ku, 0, none⟩)] 163 (0, 0)) from setCell_block HN609F.out 1 (.slice aV L0.length cV))
      have HN612R := hide (set_other_at HN609R.out (show w.heap.size ≠ w2.heap.size by omega) 1 (.slice aV L0.length cV))
      have HN612S := hide (set_other_at HN609S.out (show S ≠ w2.heap.size by omega) 1 (.slice aV L0.length cV))
      have HNM612 := hide (ownsRow_stay HNM609.out (Stay.setT HN609F.out (by decide) 1 (.slice aV L0.length cV)))
      have HOA612 := hide (ownsRow_stay HOA609.out (Stay.setT HN609F.out (by decide) 1 (.slice aV L0.length cV)))
      have HRU612 := hide (HRU609.out.stays (Stay.setT HN609F.out (by decide) 1 (.slice aV L0.length cV)) (Stay.setT HN609F.out (by decide) 1 (.slice aV L0.length cV)))
      have HT612 := hide (HT.out.stays (Stay.setT HN609F.out (by decide) 1 (.slice aV L0.length cV)) (Stay.setT HN609F.out (by decide) 1 (.slice aV L0.length cV)))
      clear H609 HP609 HK609 HN609F HN609R HN609S HNM609 HOA609 HRU609 HT
      have d613 : (w609.setCell ⟨w2.heap.size, 1, none⟩ (.slice aV L0.length cV)).cell? ⟨w2.heap.size, 0, none⟩ = some (.string n) := cell_of_block HN612F.out 0
      have d614 : (w609.setCell ⟨w2.heap.size, 1, none⟩ (.slice aV L0.length cV)).cell? ⟨w2.heap.size, 1, none⟩ = some (.slice aV L0.length cV) := cell_of_block HN612F.out 1
      have d615 : (w609.setCell ⟨w2.heap.size, 1, none⟩ (.slice aV L0.length cV)).cell? ⟨w2.heap.size, 2, none⟩ = some (.slice aA impl.length cA) := cell_of_block HN612F.out 2
      have d616 : (w609.setCell ⟨w2.heap.size, 1, none⟩ (.slice aV L0.length cV)).cell? ⟨w2.heap.size, 3, none⟩ = some (.pointer (some ⟨ku, 0, none⟩)) := cell_of_block HN612F.out 3
      have d617 : (w609.setCell ⟨w2.heap.size, 1, none⟩ (.slice aV L0.length cV)).cell? ⟨w.heap.size, 0, none⟩ = some (.string ⟨#[]⟩) := cell_of_block HN612R.out 0
      have d618 : (w609.setCell ⟨w2.heap.size, 1, none⟩ (.slice aV L0.length cV)).cell? ⟨w.heap.size, 1, none⟩ = some (.slice none 0 0) := cell_of_block HN612R.out 1
      have d619 : (w609.setCell ⟨w2.heap.size, 1, none⟩ (.slice aV L0.length cV)).cell? ⟨w.heap.size, 2, none⟩ = some (.slice none 0 0) := cell_of_block HN612R.out 2
      have d620 : (w609.setCell ⟨w2.heap.size, 1, none⟩ (.slice aV L0.length cV)).cell? ⟨w.heap.size, 3, none⟩ = some (.pointer none) := cell_of_block HN612R.out 3
      have f621 := frozen_of_block HN612R.out 0
      have f622 := frozen_of_block HN612R.out 1
      have f623 := frozen_of_block HN612R.out 2
      have f624 := frozen_of_block HN612R.out 3
      have H625 := hide (H612.out.set (F := w.heap.size) (by omega) (by omega) 0 (.string n))
      have HP625 := hide (HP612.out.set HN612R.out (by decide) 0 (.string n))
      have HK625 := hide (HK612.out.setNew ⟨w.heap.size, 0, none⟩ (by (try simp only []); omega) (.string n))
      have HN625F := hide (set_other_at HN612F.out (show w2.heap.size ≠ w.heap.size by omega) 0 (.string n))
      have HN625R := hide (show ((w609.setCell ⟨w2.heap.size, 1, none⟩ (.slice aV L0.length cV)).setCell ⟨w.heap.size, 0, none⟩ (.string n)).heap[w.heap.size]? = some (.cells #[.string n, .slice none 0 0, .slice none 0 0, .pointer none] 163 (0, 0)) from setCell_block HN612R.out 0 (.string n))
      have HN625S := hide (set_other_at HN612S.out (show S ≠ w.heap.size by omega) 0 (.string n))
      have HNM625 := hide (ownsRow_stay HNM612.out (Stay.setT HN612R.out (by decide) 0 (.string n)))
      have HOA625 := hide (ownsRow_stay HOA612.out (Stay.setT HN612R.out (by decide) 0 (.string n)))
      have HRU625 := hide (HRU612.out.stays (Stay.setT HN612R.out (by decide) 0 (.string n)) (Stay.setT HN612R.out (by decide) 0 (.string n)))
      have HT625 := hide (HT612.out.stays (Stay.setT HN612R.out (by decide) 0 (.string n)) (Stay.setT HN612R.out (by decide) 0 (.string n)))
      clear H612 HP612 HK612 HN612F HN612R HN612S HNM612 HOA612 HRU612 HT612
      have H626 := hide (H625.out.set (F := w.heap.size) (by omega) (by omega) 1 (.slice aV L0.length cV))
      have HP626 := hide (HP625.out.set HN625R.out (by decide) 1 (.slice aV L0.length cV))
      have HK626 := hide (HK625.out.setNew ⟨w.heap.size, 1, none⟩ (by (try simp only []); omega) (.slice aV L0.length cV))
      have HN626F := hide (set_other_at HN625F.out (show w2.heap.size ≠ w.heap.size by omega) 1 (.slice aV L0.length cV))
      have HN626R := hide (show (((w609.setCell ⟨w2.heap.size, 1, none⟩ (.slice aV L0.length cV)).setCell ⟨w.heap.size, 0, none⟩ (.string n)).setCell ⟨w.heap.size, 1, none⟩ (.slice aV L0.length cV)).heap[w.heap.size]? = some (.cells #[.string n, .slice aV L0.length cV, .slice none 0 0, .pointer none] 163 (0, 0)) from setCell_block HN625R.out 1 (.slice aV L0.length cV))
      have HN626S := hide (set_other_at HN625S.out (show S ≠ w.heap.size by omega) 1 (.slice aV L0.length cV))
      have HNM626 := hide (ownsRow_stay HNM625.out (Stay.setT HN625R.out (by decide) 1 (.slice aV L0.length cV)))
      have HOA626 := hide (ownsRow_stay HOA625.out (Stay.setT HN625R.out (by decide) 1 (.slice aV L0.length cV)))
      have HRU626 := hide (HRU625.out.stays (Stay.setT HN625R.out (by decide) 1 (.slice aV L0.length cV)) (Stay.setT HN625R.out (by decide) 1 (.slice aV L0.length cV)))
      have HT626 := hide (HT625.out.stays (Stay.setT HN625R.out (by decide) 1 (.slice aV L0.length cV)) (Stay.setT HN625R.out (by decide) 1 (.slice aV L0.length cV)))
      clear H625 HP625 HK625 HN625F HN625R HN625S HNM625 HOA625 HRU625 HT625
      have H627 := hide (H626.out.set (F := w.heap.size) (by omega) (by omega) 2 (.slice aA impl.length cA))
      have HP627 := hide (HP626.out.set HN626R.out (by decide) 2 (.slice aA impl.length cA))
      have HK627 := hide (HK626.out.setNew ⟨w.heap.size, 2, none⟩ (by (try simp only []); omega) (.slice aA impl.length cA))
      have HN627F := hide (set_other_at HN626F.out (show w2.heap.size ≠ w.heap.size by omega) 2 (.slice aA impl.length cA))
      have HN627R := hide (show ((((w609.setCell ⟨w2.heap.size, 1, none⟩ (.slice aV L0.length cV)).setCell ⟨w.heap.size, 0, none⟩ (.string n)).setCell ⟨w.heap.size, 1, none⟩ (.slice aV L0.length cV)).setCell ⟨w.heap.size, 2, none⟩ (.slice aA impl.length cA)).heap[w.heap.size]? = some (.cells #[.string n, .slice aV L0.length cV, .slice aA impl.length cA, .pointer none] 163 (0, 0)) from setCell_block HN626R.out 2 (.slice aA impl.length cA))
      have HN627S := hide (set_other_at HN626S.out (show S ≠ w.heap.size by omega) 2 (.slice aA impl.length cA))
      have HNM627 := hide (ownsRow_stay HNM626.out (Stay.setT HN626R.out (by decide) 2 (.slice aA impl.length cA)))
      have HOA627 := hide (ownsRow_stay HOA626.out (Stay.setT HN626R.out (by decide) 2 (.slice aA impl.length cA)))
      have HRU627 := hide (HRU626.out.stays (Stay.setT HN626R.out (by decide) 2 (.slice aA impl.length cA)) (Stay.setT HN626R.out (by decide) 2 (.slice aA impl.length cA)))
      have HT627 := hide (HT626.out.stays (Stay.setT HN626R.out (by decide) 2 (.slice aA impl.length cA)) (Stay.setT HN626R.out (by decide) 2 (.slice aA impl.length cA)))
      clear H626 HP626 HK626 HN626F HN626R HN626S HNM626 HOA626 HRU626 HT626
      have H628 := hide (H627.out.set (F := w.heap.size) (by omega) (by omega) 3 (.pointer (some ⟨ku, 0, none⟩)))
      have HP628 := hide (HP627.out.set HN627R.out (by decide) 3 (.pointer (some ⟨ku, 0, none⟩)))
      have HK628 := hide (HK627.out.setNew ⟨w.heap.size, 3, none⟩ (by (try simp only []); omega) (.pointer (some ⟨ku, 0, none⟩)))
      have HN628F := hide (set_other_at HN627F.out (show w2.heap.size ≠ w.heap.size by omega) 3 (.pointer (some ⟨ku, 0, none⟩)))
      have HN628R := hide (show (((((w609.setCell ⟨w2.heap.size, 1, none⟩ (.slice aV L0.length cV)).setCell ⟨w.heap.size, 0, none⟩ (.string n)).setCell ⟨w.heap.size, 1, none⟩ (.slice aV L0.length cV)).setCell ⟨w.heap.size, 2, none⟩ (.slice aA impl.length cA)).setCell ⟨w.heap.size, 3, none⟩ (.pointer (some ⟨ku, 0, none⟩))).heap[w.heap.size]? = some (.cells #[.string n, .slice aV L0.length cV, .slice aA impl.length cA, .pointer (some ⟨ku, 0, none⟩)] 163 (0, 0)) from setCell_block HN627R.out 3 (.pointer (some ⟨ku, 0, none⟩)))
      have HN628S := hide (set_other_at HN627S.out (show S ≠ w.heap.size by omega) 3 (.pointer (some ⟨ku, 0, none⟩)))
      have HNM628 := hide (ownsRow_stay HNM627.out (Stay.setT HN627R.out (by decide) 3 (.pointer (some ⟨ku, 0, none⟩))))
      have HOA628 := hide (ownsRow_stay HOA627.out (Stay.setT HN627R.out (by decide) 3 (.pointer (some ⟨ku, 0, none⟩))))
      have HRU628 := hide (HRU627.out.stays (Stay.setT HN627R.out (by decide) 3 (.pointer (some ⟨ku, 0, none⟩))) (Stay.setT HN627R.out (by decide) 3 (.pointer (some ⟨ku, 0, none⟩))))
      have HT628 := hide (HT627.out.stays (Stay.setT HN627R.out (by decide) 3 (.pointer (some ⟨ku, 0, none⟩))) (Stay.setT HN627R.out (by decide) 3 (.pointer (some ⟨ku, 0, none⟩))))
      clear H627 HP627 HK627 HN627F HN627R HN627S HNM627 HOA627 HRU627 HT627
      go_wp2_with fail
      rw [HQ3.out]
      exact bodyPost_ret (v := .agg #[.string n, .slice aV L0.length cV, .slice aA impl.length cA, .pointer (some ⟨ku, 0, none⟩)]) (by simp [results, Tryz.results95, go_sem, *]) rfl ⟨_, _, _, rfl, HT628.out, hfl, HOA628.out, himl, HRU628.out, ⟨H628.out, HP628.out, HK628.out, _, HN628S.out, by rw [List.length_append]; exact HNM628.out⟩⟩
end Go.Proofs.YtpggfgjongkihaaGreat
namespace Go.Proofs.YtpggfgjongkihaaGreat
open Go.RowKit
attribute [local go_sem ↓] Go.wp_at_zero Go.wp_at_succ
structure PIf where
  name : ByteArray
  fields : List PFld
structure PUn where
  name : ByteArray
  members : List ByteArray
structure PSch where
  roles : List RRole
  objs : List PObj
  ifs : List PIf
  uns : List PUn
  names : List ByteArray
def bIface : ByteArray := ofB [105, 110, 116, 101, 114, 102, 97, 99, 101]
def bUnion' : ByteArray := ofB [117, 110, 105, 111, 110]
def pDef (c : PSch) (s : St) : PSch × St :=
  if nm s = bRole then ({ c with roles := c.roles ++ [(pRole (nmT s)).1] }, (pRole (nmT s)).2)
  else if nm s = bType then ({ c with objs := c.objs ++ [(pObject (nmT s)).1], names := c.names ++ [(pObject (nmT s)).1.name] }, (pObject (nmT s)).2)
  else if nm s = bIface then ({ c with ifs := c.ifs ++ [⟨nm (nmT s), (pFields (nmT (nmT s))).1⟩], names := c.names ++ [nm (nmT s)] }, (pFields (nmT (nmT s))).2)
  else if nm s = bUnion' then ({ c with uns := c.uns ++ [⟨nm (nmT s), (pMembers (nmT (nmT s))).1⟩], names := c.names ++ [nm (nmT s)] }, (pMembers (nmT (nmT s))).2)
  else (c, none)
/-- rows whose cells are laid out by a function, each with its own well-formedness -/
structure RowG {β : Type} (w : World) (B e size : Nat) (v : Value) (flat : β → List Value) (ok : World → β → Prop) (L : List β) : Prop where
  own : w.ownsRow B e size v L.length (L.flatMap flat)
  ok : ∀ x ∈ L, ok w x
/-- the blocks of what lies within definitions stay -/
def Inner (S : Nat) (w w' : World) : Prop := Stay 9 S w w' ∧ Stay 180 S w w' ∧ Stay 257 S w w' ∧ Stay 216 S w w' ∧ Stay 161 S w w'
def flR (x : RRole × Value) : List Value := [.string x.1.name, x.2]
def okR (S : Nat) (w : World) (x : RRole × Value) : Prop := w.ownsRow S 9 1 x.2 x.1.inc.length (strsV x.1.inc) ∧ x.1.inc.length ≤ 803
def flO (x : PObj × Value × Value × Value) : List Value := [.string x.1.name, x.2.1, x.2.2.1, x.2.2.2]
def okO (S : Nat) (w : World) (x : PObj × Value × Value × Value) : Prop := PFlds w S x.2.1 x.1.fields ∧ x.1.fields.length ≤ 802 ∧ w.ownsRow S 9 1 x.2.2.1 x.1.impl.length (strsV x.1.impl) ∧ x.1.impl.length ≤ 803 ∧ RuleAt w S x.2.2.2 x.1.rule
def flI (x : PIf × Value) : List Value := [.string x.1.name, x.2]
def okI (S : Nat) (w : World) (x : PIf × Value) : Prop := PFlds w S x.2 x.1.fields ∧ x.1.fields.length ≤ 802
def flU (x : PUn × Value) : List Value := [.string x.1.name, x.2]
def okU (S : Nat) (w : World) (x : PUn × Value) : Prop := w.ownsRow S 9 1 x.2 x.1.members.length (strsV x.1.members) ∧ x.1.members.length ≤ 803
theorem okR.stays {S : Nat} {w w' : World} (h : Inner S w w') {x : RRole × Value} (hx : okR S w x) : okR S w' x := ⟨ownsRow_stay hx.1 h.1, hx.2⟩
theorem okO.stays {S : Nat} {w w' : World} (h : Inner S w w') {x : PObj × Value × Value × Value} (hx : okO S w x) : okO S w' x := ⟨hx.1.stays h.2.1 h.2.2.1, hx.2.1, ownsRow_stay hx.2.2.1 h.1, hx.2.2.2.1, hx.2.2.2.2.stays h.2.2.2.1 h.2.2.2.2⟩
theorem okI.stays {S : Nat} {w w' : World} (h : Inner S w w') {x : PIf × Value} (hx : okI S w x) : okI S w' x := ⟨hx.1.stays h.2.1 h.2.2.1, hx.2⟩
theorem okU.stays {S : Nat} {w w' : World} (h : Inner S w w') {x : PUn × Value} (hx : okU S w x) : okU S w' x := ⟨ownsRow_stay hx.1 h.1, hx.2⟩
theorem RowG.stays {β : Type} {w w' : World} {B e size : Nat} {v : Value} {flat : β → List Value} {ok : World → β → Prop} {L : List β} (h : RowG w B e size v flat ok L) (h1 : Stay e B w w') (h2 : ∀ x, ok w x → ok w' x) : RowG w' B e size v flat ok L :=
  ⟨ownsRow_stay h.own h1, fun x hx => h2 x (h.ok x hx)⟩
theorem RuleAt.mono {w : World} {B C : Nat} {v : Value} {o : Option (List Leaf)} (h : RuleAt w B v o) (hc : C ≤ B) : RuleAt w C v o := by
  cases o with
  | none => exact h
  | some l => exact RuAt.imp (fun k hk => Nat.le_trans hc hk) h
/-- the program's schema in memory -/
structure SchP (w : World) (S : Nat) (c : PSch) : Prop where
  ex : ∃ vR vO vI vU vN LR LO LI LU, SC w S vR vO vI vU vN ∧ RowG w S 154 2 vR flR (okR S) LR ∧ RowG w S 163 4 vO flO (okO S) LO ∧ RowG w S 197 2 vI flI (okI S) LI ∧ RowG w S 200 2 vU flU (okU S) LU ∧ w.ownsRow S 152 1 vN c.names.length (strsV c.names) ∧ LR.map Prod.fst = c.roles ∧ LO.map Prod.fst = c.objs ∧ LI.map Prod.fst = c.ifs ∧ LU.map Prod.fst = c.uns
theorem Tryz.info154 : (Tryz.prog.info? 154).map (fun i => (i.zero, i.size, i.bytes)) = some (some (.agg #[.string ⟨#[]⟩, .slice none 0 0]), 2, 40) := by kernel_rfl
theorem Tryz.info163 : (Tryz.prog.info? 163).map (fun i => (i.zero, i.size, i.bytes)) = some (some (.agg #[.string ⟨#[]⟩, .slice none 0 0, .slice none 0 0, .pointer none]), 4, 72) := by kernel_rfl
theorem Tryz.info197 : (Tryz.prog.info? 197).map (fun i => (i.zero, i.size, i.bytes)) = some (some (.agg #[.string ⟨#[]⟩, .slice none 0 0]), 2, 40) := by kernel_rfl
theorem Tryz.info200 : (Tryz.prog.info? 200).map (fun i => (i.zero, i.size, i.bytes)) = some (some (.agg #[.string ⟨#[]⟩, .slice none 0 0]), 2, 40) := by kernel_rfl
theorem one2 {a b : Value} (h1 : a.oneCell' = true) (h2 : b.oneCell' = true) : ∀ u ∈ [a, b], u.oneCell' = true := by
  intro u hu; simp at hu; rcases hu with rfl | rfl <;> assumption
theorem one4 {a b c d : Value} (h1 : a.oneCell' = true) (h2 : b.oneCell' = true) (h3 : c.oneCell' = true) (h4 : d.oneCell' = true) : ∀ u ∈ [a, b, c, d], u.oneCell' = true := by
  intro u hu; simp at hu; rcases hu with rfl | rfl | rfl | rfl <;> assumption
theorem KeepY.inner {b S' S : Nat} {w w' : World} (h : KeepY b S' w w') : Inner S w w' := ⟨h.stay (by decide) (by decide) (by decide), h.stay (by decide) (by decide) (by decide), h.stay (by decide) (by decide) (by decide), h.stay (by decide) (by decide) (by decide), h.stay (by decide) (by decide) (by decide)⟩
/-- below S all blocks but b are as they were -/
structure Lo (b S : Nat) (w w' : World) : Prop where
  os : w'.os = w.os
  tape : w'.tape = w.tape
  output : w'.output = w.output
  size : w.heap.size ≤ w'.heap.size
  low : ∀ k, k < S → k < w.heap.size → k ≠ b → w'.heap[k]? = w.heap[k]?
theorem Lo.refl (b S : Nat) (w : World) : Lo b S w w := ⟨rfl, rfl, rfl, Nat.le_refl _, fun _ _ _ _ => rfl⟩
theorem Lo.trans {b S : Nat} {x y z : World} (h : Lo b S x y) (k : Lo b S y z) : Lo b S x z := ⟨k.os.trans h.os, k.tape.trans h.tape, k.output.trans h.output, Nat.le_trans h.size k.size, fun i hS hi hb => (k.low i hS (Nat.lt_of_lt_of_le hi h.size) hb).trans (h.low i hS hi hb)⟩
theorem Lo.of_keep {b S : Nat} {w w' : World} (h : Keep b w w') : Lo b S w w' := ⟨h.os, h.tape, h.output, h.size, fun k _ hk hb => h.block k hk hb⟩
theorem KeepY.lo {b S : Nat} {w w' : World} (h : KeepY b S w w') : Lo b S w w' := ⟨h.os, h.tape, h.output, h.size, h.low⟩
theorem Lo.of_below {b S : Nat} {w w' : World} (h : Below w.heap.size w w') : Lo b S w w' := ⟨h.os, h.tape, h.output, h.size, fun k _ hk _ => h.block k hk⟩
theorem Lo.of_grown {b S : Nat} {y z : World} {row : Option Nat} (hg : y.grownBy z row) (hr : ∀ k, row = some k → S ≤ k) : Lo b S y z := ⟨hg.os, hg.tape, hg.output, hg.size, fun k hS hk _ => hg.block k hk (fun e => by have := hr k e.symm; omega)⟩
theorem Lo.set {b S : Nat} {x y : World} {F : Nat} (h : Lo b S x y) (hF : S ≤ F) (i : Nat) (v : Value) : Lo b S x (y.setCell ⟨F, i, none⟩ v) := h.trans ⟨rfl, rfl, rfl, by simp [World.setCell], fun k hS _ _ => Below.heap_setCell _ _ _ _ (fun e => by have e2 : k = F := e; omega)⟩
theorem Lo.below {b S B : Nat} {w w' : World} (h : Lo b S w w') (hb : B ≤ b) (hS : B ≤ S) (hB : B ≤ w.heap.size) : Below B w w' := ⟨h.os, h.tape, h.output, h.size, fun k hk => h.low k (by omega) (by omega) (by omega)⟩
theorem PFlds.slice {w : World} {B : Nat} {v : Value} {l : List PFld} (h : PFlds w B v l) : ∃ a c, v = .slice a l.length c := by
  obtain ⟨L, e, ho, _⟩ := h
  obtain ⟨a, c, hv⟩ := own_slice ho
  exact ⟨a, c, by rw [hv, ← e]; simp⟩
set_option maxHeartbeats 8000000 in
set_option maxRecDepth 100000 in
theorem readDefinition_any (w : World) (p b S G : Nat) (s : St) (c : PSch) (hP : PP w p b S) (h : PS w b G s) (hc : SchP w S c) (hbS : b < S) (hGS : G < S) (hlR : c.roles.length ≤ 100000) (hlO : c.objs.length ≤ 100000) (hlI : c.ifs.length ≤ 100000) (hlU : c.uns.length ≤ 100000) (hnl : c.names.length ≤ 100000) :
    Calls Tryz.prog 53 #[.pointer (some ⟨p, 0, none⟩)] w fun e w' => e = .returned (.tuple #[]) ∧ PS w' b G (pDef c s).2 ∧ PP w' p b S ∧ SchP w' S (pDef c s).1 ∧ Lo b S w w' := by
  obtain ⟨vR, vO, vI, vU, vN, LR, LO, LI, LU, hS, hR, hO, hI, hU, hN, mR, mO, mI, mU⟩ := hc.ex
  clear hc
  have hlR' : LR.length ≤ 100000 := by rw [← mR] at hlR; simpa using hlR
  have hlO' : LO.length ≤ 100000 := by rw [← mO] at hlO; simpa using hlO
  have hlI' : LI.length ≤ 100000 := by rw [← mI] at hlI; simpa using hlI
  have hlU' : LU.length ≤ 100000 := by rw [← mU] at hlU; simpa using hlU
  have HMR := hide mR
  have HMO := hide mO
  have HMI := hide mI
  have HMU := hide mU
  clear mR mO mI mU hlR hlO hlI hlU
  obtain ⟨aR, cR, rfl⟩ := own_slice hR.own
  obtain ⟨aO, cO, rfl⟩ := own_slice hO.own
  obtain ⟨aI, cI, rfl⟩ := own_slice hI.own
  obtain ⟨aU', cU', rfl⟩ := own_slice hU.own
  have hlt := h.lt
  have hgl := h.glt
  have hpl := hP.lt
  have hSl := lt_of_block hS
  have c0 := hP.c0
  have cS := hP.c1
  have hc := needName_any w b G s h
  have H0 := hide h
  have HP0 := hide hP
  have HS0 := hide (show w.heap[S]? = some (.cells #[.slice aR LR.length cR, .slice aO LO.length cO, .slice aI LI.length cI, .slice aU' LU.length cU', vN] 133 (0, 0)) from hS)
  have HR0 := hide hR
  have HO0 := hide hO
  have HI0 := hide hI
  have HU0 := hide hU
  have HN0 := hide hN
  clear h hP hS hR hO hI hU hN
  have L1 := beq_lit (nm s) [114, 111, 108, 101]
  have L2 := beq_lit (nm s) [116, 121, 112, 101]
  have L3 := beq_lit (nm s) [105, 110, 116, 101, 114, 102, 97, 99, 101]
  have L4 := beq_lit (nm s) [117, 110, 105, 111, 110]
  by_cases e1 : nm s = bRole
  · skip
    have HQ := hide (show pDef c s = ({ c with roles := c.roles ++ [(pRole (nmT s)).1] }, (pRole (nmT s)).2) from by unfold pDef; rw [if_pos e1])
    rw [decide_eq_true (show nm s = ofB _ from e1)] at L1
    clear e1 L2 L3 L4
    generalize pDef c s = FF at *
    generalize nm s = n0 at *
    generalize nmT s = s1 at *
    have hcl := fun W (hP : PP W p b S) (h : PS W b G s1) => readRole_any W p b S G s1 hP h
    generalize pRole s1 = el at *
    go_enter Tryz.func53, Tryz.ntmps53
    go_wp2_with fail
    refine hc.mono ?_
    clear hc
    rintro e w1 ⟨rfl, h1, k1⟩
    have hy1 : KeepY b S w w1 := KeepY.of_keep k1 H0.out.ty.choose_spec
    have hst : ∀ T, T ≠ 193 → Stay T S w w1 := fun T hT => H0.out.stay k1 hT
    have hin1 : Inner S w w1 := ⟨hst _ (by decide), hst _ (by decide), hst _ (by decide), hst _ (by decide), hst _ (by decide)⟩
    have HS1 := hide (k1.at HS0.out (by omega))
    have HR1 := hide (HR0.out.stays (hst _ (by decide)) (fun x hx => okR.stays hin1 hx))
    have HO1 := hide (HO0.out.stays (hst _ (by decide)) (fun x hx => okO.stays hin1 hx))
    have HI1 := hide (HI0.out.stays (hst _ (by decide)) (fun x hx => okI.stays hin1 hx))
    have HU1 := hide (HU0.out.stays (hst _ (by decide)) (fun x hx => okU.stays hin1 hx))
    have HN1 := hide (ownsRow_stay HN0.out (hst _ (by decide)))
    have HP1 := hide (HP0.out.keep H0.out k1)
    have H1 := hide (show PS w1 b G s1 from h1)
    have HL1 := hide (Lo.of_keep (S := S) k1)
    clear h1 k1 hy1 hst hin1 H0 HP0 HS0 HR0 HO0 HI0 HU0 HN0
    have zw1 := lt_of_block HS1.out
    have zp1 := HP1.out.lt
    have dA : w1.cell? ⟨S, 0, none⟩ = some (.slice aR LR.length cR) := cell_of_block HS1.out 0
    have fA := frozen_of_block HS1.out 0
    have HC := hide (show ∀ W, Below w1.heap.size w1 W → Calls Tryz.prog 94 #[.pointer (some ⟨p, 0, none⟩)] W fun e w' => ∃ aU nU cU vN', e = .returned (.agg #[.string el.1.name, .slice aU nU cU]) ∧ PS w' b G el.2 ∧ PP w' p b S ∧ KeepY b S w1 w' ∧ w'.heap[S]? = some (.cells #[.slice aR LR.length cR, .slice aO LO.length cO, .slice aI LI.length cI, .slice aU' LU.length cU', vN'] 133 (0, 0)) ∧ w'.ownsRow S 152 1 vN' c.names.length (strsV c.names) ∧ okR S w' (el.1, Value.slice aU nU cU) ∧ w'.cell? ⟨S, 0, none⟩ = some (Value.slice aR LR.length cR) ∧ w'.frozen? ⟨S, 0, none⟩ = false ∧ w'.ownsRow S 154 2 (Value.slice aR LR.length cR) LR.length (LR.flatMap flR) ∧ w1.heap.size ≤ w'.heap.size from fun W hW => (hcl W (HP1.out.below hW) (H1.out.below hW)).mono (by
      rintro e w' ⟨u, a1, a5, a6, a2, a3⟩
      have a4 := (Keep.of_below (b := b) hW).trans a3
      obtain ⟨aU, cU, rfl⟩ := own_slice a5
      have hS' := a4.at HS1.out (by omega)
      exact ⟨aU, _, cU, vN, a1, a2, HP1.out.keep H1.out a4, KeepY.of_keep a4 H1.out.ty.choose_spec, hS', ownsRow_stay HN1.out (H1.out.stay a4), ⟨ownsRow_lower a5 (by have := hW.size; omega), by simp only []; omega⟩, cell_of_block hS' 0, frozen_of_block hS' 0, ownsRow_stay HR1.out.own (H1.out.stay a4), a4.size⟩))
    have hlo : Option.some S ≠ (Value.slice aR LR.length cR).ownBlock := own_far HR1.out.own HS1.out (by decide)
    have hrd : ∀ k, (Value.slice aR LR.length cR).ownBlock = some k → S ≤ k := fun k hk => (HR1.out.own.lt k hk).1
    have hlob : Option.some b ≠ (Value.slice aR LR.length cR).ownBlock := fun e => by have := hrd b e.symm; omega
    have hlog : Option.some G ≠ (Value.slice aR LR.length cR).ownBlock := fun e => by have := hrd G e.symm; omega
    have hlop : Option.some p ≠ (Value.slice aR LR.length cR).ownBlock := own_far HR1.out.own HP1.out (by decide)
    obtain ⟨i0, hi, hz0, hz1, hz2⟩ := info_parts Tryz.info154
    clear hcl
    go_wp2_with fail
    go_region_law (first
      | (refine step_append_lies _ (by rfl) _ _ _ (by rfl) S 154 i0 _ 2 40 Tryz.underlying127 hi hz0 hz1 hz2 rfl (by decide) _ _ _ (by rfl) (hO4.alloc _) ⟨w4.heap.size, 0, none⟩ 1 1 [.string el.1.name, .slice aU nU cU] (by rfl) (by rfl) (cells_new' _ _ _ _ (by simp)) (one2 rfl rfl) (by decide) (by unfold maxLen; omega) (by omega) (by simp; omega) (w4.heap.size + 1) (by simp) ?_; intro g cap w5 hown5 hgrow hat hg5; have e5 : w5.cell? ⟨S, 0, none⟩ = some (Value.slice aR LR.length cR) := (hgrow.cell_far ⟨S, 0, none⟩ (by simp; omega) hlo).trans ((((Below.refl w4.heap.size w4).alloc (Nat.le_refl _) _).cell (show S < w4.heap.size by omega)).trans d4); have f5 : w5.frozen? ⟨S, 0, none⟩ = false := (hgrow.frozen_far ⟨S, 0, none⟩ (by simp; omega) hlo).trans ((((Below.refl w4.heap.size w4).alloc (Nat.le_refl _) _).frozen (show S < w4.heap.size by omega)).trans f4))
      | (go_simp; go_at_call 94; refine (HC.out _ ?_).mono ?_; (first | exact (Below.refl _ _).drew | exact Below.refl _ _); rintro e w4 ⟨aU, nU, cU, vN', rfl, h4, hP4, hy4, hS4, hN4, hok4, d4, f4, hO4, z4⟩; have n4 : w4.heap.size ≠ S := (by omega); have n4' : S < w4.heap.size := (by omega)))
    all_goals (
      have g5S : w5.heap[S]? = some (.cells #[.slice aR LR.length cR, .slice aO LO.length cO, .slice aI LI.length cI, .slice aU' LU.length cU', vN'] 133 (0, 0)) := (hgrow.block S (by simp; omega) hlo).trans ((alloc_other _ _ _ n4').trans hS4)
      have hst : ∀ T, 154 ≠ T → 133 ≠ T → Stay T S w4 (w5.setCell ⟨S, 0, none⟩ (Value.slice (some ⟨g, 0, none⟩) (LR.length + 1) cap)) := fun T h1 h2 => ((Stay.alloc _).trans (Stay.grown hgrow (hO4.alloc _) rfl h1)).trans (Stay.setT g5S h2 0 (Value.slice (some ⟨g, 0, none⟩) (LR.length + 1) cap))
      have hin : Inner S w4 (w5.setCell ⟨S, 0, none⟩ (Value.slice (some ⟨g, 0, none⟩) (LR.length + 1) cap)) := ⟨hst _ (by decide) (by decide), hst _ (by decide) (by decide), hst _ (by decide) (by decide), hst _ (by decide) (by decide), hst _ (by decide) (by decide)⟩
      have hiy : Inner S w1 w4 := hy4.inner
      have hsy : ∀ T, T ≠ 193 → T ≠ 133 → T ≠ 152 → 154 ≠ T → Stay T S w1 (w5.setCell ⟨S, 0, none⟩ (Value.slice (some ⟨g, 0, none⟩) (LR.length + 1) cap)) := fun T h1 h2 h3 h4 => (hy4.stay h1 h2 h3).trans (hst T h4 (fun e => h2 e.symm))
      have gS := ((h4.alloc _).grown' hgrow hlob hlog).set (F := S) (by omega) (by omega) 0 (Value.slice (some ⟨g, 0, none⟩) (LR.length + 1) cap)
      have gP := ((hP4.alloc _).grown' hgrow hlop).set g5S (by decide) 0 (Value.slice (some ⟨g, 0, none⟩) (LR.length + 1) cap)
      have gJ : RowG (w5.setCell ⟨S, 0, none⟩ (Value.slice (some ⟨g, 0, none⟩) (LR.length + 1) cap)) S 154 2 (Value.slice (some ⟨g, 0, none⟩) (LR.length + 1) cap) flR (okR S) (LR ++ [(el.1, Value.slice aU nU cU)]) := ⟨by rw [List.length_append, List.flatMap_append]; exact ownsRow_stay hown5 (Stay.setT g5S (by decide) 0 (Value.slice (some ⟨g, 0, none⟩) (LR.length + 1) cap)), fun x hx => by
        rcases List.mem_append.1 hx with hx | hx
        · exact okR.stays hin (okR.stays hiy (HR1.out.ok x hx))
        · rw [List.mem_singleton] at hx; subst hx; exact okR.stays hin hok4⟩
      have gvO := HO1.out.stays (hsy 163 (by decide) (by decide) (by decide) (by decide)) (fun x hx => okO.stays hin (okO.stays hiy hx))
      have gvI := HI1.out.stays (hsy 197 (by decide) (by decide) (by decide) (by decide)) (fun x hx => okI.stays hin (okI.stays hiy hx))
      have gvU := HU1.out.stays (hsy 200 (by decide) (by decide) (by decide) (by decide)) (fun x hx => okU.stays hin (okU.stays hiy hx))
      have gN := ownsRow_stay hN4 (hst 152 (by decide) (by decide))
      have gL := ((HL1.out.trans hy4.lo).trans ((Lo.of_below ((Below.refl w4.heap.size w4).alloc (Nat.le_refl _) _)).trans (Lo.of_grown hgrow hrd))).set (Nat.le_refl S) 0 (Value.slice (some ⟨g, 0, none⟩) (LR.length + 1) cap)
      have HX := hide (show PS _ b G FF.2 ∧ PP _ p b S ∧ SchP _ S FF.1 ∧ Lo b S w _ from ⟨by rw [HQ.out]; exact gS, gP, by rw [HQ.out]; exact ⟨(Value.slice (some ⟨g, 0, none⟩) (LR.length + 1) cap), (.slice aO LO.length cO), (.slice aI LI.length cI), (.slice aU' LU.length cU'), vN', (LR ++ [(el.1, Value.slice aU nU cU)]), LO, LI, LU, setCell_block g5S 0 (Value.slice (some ⟨g, 0, none⟩) (LR.length + 1) cap), gJ, gvO, gvI, gvU, gN, by rw [List.map_append, HMR.out]; rfl, HMO.out, HMI.out, HMU.out⟩, gL⟩)
      clear gS gP gJ gN gvO gvI gvU hst hin hiy hsy g5S hown5 hgrow h4 hP4 hy4 hS4 hN4 hok4 hO4
      go_wp2_with fail
      go_end0
      exact ⟨rfl, HX.out⟩)
  by_cases e2 : nm s = bType
  · skip
    have HQ := hide (show pDef c s = ({ c with objs := c.objs ++ [(pObject (nmT s)).1], names := c.names ++ [(pObject (nmT s)).1.name] }, (pObject (nmT s)).2) from by unfold pDef; rw [if_neg e1, if_pos e2])
    rw [decide_eq_false (show ¬ nm s = ofB _ from e1)] at L1
    rw [decide_eq_true (show nm s = ofB _ from e2)] at L2
    clear e1 e2 L3 L4
    generalize pDef c s = FF at *
    generalize nm s = n0 at *
    generalize nmT s = s1 at *
    have hcl := fun W (vR vO vI vU vN : Value) (names : List ByteArray) (hP : PP W p b S) (h : PS W b G s1) (hS : SC W S vR vO vI vU vN) (hN : W.ownsRow S 152 1 vN names.length (strsV names)) (hnl : names.length ≤ 100000) => readObject_any W p b S G s1 vR vO vI vU vN names hP h hS hN hbS hGS hnl
    generalize pObject s1 = el at *
    go_enter Tryz.func53, Tryz.ntmps53
    go_wp2_with fail
    refine hc.mono ?_
    clear hc
    rintro e w1 ⟨rfl, h1, k1⟩
    have hy1 : KeepY b S w w1 := KeepY.of_keep k1 H0.out.ty.choose_spec
    have hst : ∀ T, T ≠ 193 → Stay T S w w1 := fun T hT => H0.out.stay k1 hT
    have hin1 : Inner S w w1 := ⟨hst _ (by decide), hst _ (by decide), hst _ (by decide), hst _ (by decide), hst _ (by decide)⟩
    have HS1 := hide (k1.at HS0.out (by omega))
    have HR1 := hide (HR0.out.stays (hst _ (by decide)) (fun x hx => okR.stays hin1 hx))
    have HO1 := hide (HO0.out.stays (hst _ (by decide)) (fun x hx => okO.stays hin1 hx))
    have HI1 := hide (HI0.out.stays (hst _ (by decide)) (fun x hx => okI.stays hin1 hx))
    have HU1 := hide (HU0.out.stays (hst _ (by decide)) (fun x hx => okU.stays hin1 hx))
    have HN1 := hide (ownsRow_stay HN0.out (hst _ (by decide)))
    have HP1 := hide (HP0.out.keep H0.out k1)
    have H1 := hide (show PS w1 b G s1 from h1)
    have HL1 := hide (Lo.of_keep (S := S) k1)
    clear h1 k1 hy1 hst hin1 H0 HP0 HS0 HR0 HO0 HI0 HU0 HN0
    have zw1 := lt_of_block HS1.out
    have zp1 := HP1.out.lt
    have dA : w1.cell? ⟨S, 1, none⟩ = some (.slice aO LO.length cO) := cell_of_block HS1.out 1
    have fA := frozen_of_block HS1.out 1
    have HC := hide (show ∀ W, Below w1.heap.size w1 W → Calls Tryz.prog 95 #[.pointer (some ⟨p, 0, none⟩)] W fun e w' => ∃ aF nF cF aU nU cU qL vN', e = .returned (.agg #[.string el.1.name, .slice aF nF cF, .slice aU nU cU, .pointer qL]) ∧ PS w' b G el.2 ∧ PP w' p b S ∧ KeepY b S w1 w' ∧ w'.heap[S]? = some (.cells #[.slice aR LR.length cR, .slice aO LO.length cO, .slice aI LI.length cI, .slice aU' LU.length cU', vN'] 133 (0, 0)) ∧ w'.ownsRow S 152 1 vN' (c.names ++ [el.1.name]).length (strsV (c.names ++ [el.1.name])) ∧ okO S w' (el.1, Value.slice aF nF cF, Value.slice aU nU cU, Value.pointer qL) ∧ w'.cell? ⟨S, 1, none⟩ = some (Value.slice aO LO.length cO) ∧ w'.frozen? ⟨S, 1, none⟩ = false ∧ w'.ownsRow S 163 4 (Value.slice aO LO.length cO) LO.length (LO.flatMap flO) ∧ w1.heap.size ≤ w'.heap.size from fun W hW => (hcl W _ _ _ _ vN c.names (HP1.out.below hW) (H1.out.below hW) ((hW.block S zw1).trans HS1.out) (ownsRow_below HN1.out hW) hnl).mono (by
      rintro e w' ⟨vF, vA, vL, a1, t1, t2, t3, t4, t5, dp⟩
      obtain ⟨aF, cF, rfl⟩ := t1.slice
      obtain ⟨aU, cU, rfl⟩ := own_slice t3
      obtain ⟨qL, rfl⟩ := t5.ptr
      obtain ⟨a2, a7, a8, vN', hS', hN'⟩ := dp
      have a9 : KeepY b S w1 w' := (KeepY.of_below hW).trans a8
      exact ⟨aF, _, cF, aU, _, cU, qL, vN', a1, a2, a7, a9, hS', hN', ⟨t1.mono (by have := hW.size; omega), t2, ownsRow_lower t3 (by have := hW.size; omega), t4, t5.mono (by have := hW.size; omega)⟩, cell_of_block hS' 1, frozen_of_block hS' 1, ownsRow_stay HO1.out.own (a9.stay (by decide) (by decide) (by decide)), a9.size⟩))
    have hlo : Option.some S ≠ (Value.slice aO LO.length cO).ownBlock := own_far HO1.out.own HS1.out (by decide)
    have hrd : ∀ k, (Value.slice aO LO.length cO).ownBlock = some k → S ≤ k := fun k hk => (HO1.out.own.lt k hk).1
    have hlob : Option.some b ≠ (Value.slice aO LO.length cO).ownBlock := fun e => by have := hrd b e.symm; omega
    have hlog : Option.some G ≠ (Value.slice aO LO.length cO).ownBlock := fun e => by have := hrd G e.symm; omega
    have hlop : Option.some p ≠ (Value.slice aO LO.length cO).ownBlock := own_far HO1.out.own HP1.out (by decide)
    obtain ⟨i0, hi, hz0, hz1, hz2⟩ := info_parts Tryz.info163
    clear hcl
    go_wp2_with fail
    go_region_law (first
      | (refine step_append_lies _ (by rfl) _ _ _ (by rfl) S 163 i0 _ 4 72 Tryz.underlying128 hi hz0 hz1 hz2 rfl (by decide) _ _ _ (by rfl) (hO4.alloc _) ⟨w4.heap.size, 0, none⟩ 1 1 [.string el.1.name, .slice aF nF cF, .slice aU nU cU, .pointer qL] (by rfl) (by rfl) (cells_new' _ _ _ _ (by simp)) (one4 rfl rfl rfl rfl) (by decide) (by unfold maxLen; omega) (by omega) (by simp; omega) (w4.heap.size + 1) (by simp) ?_; intro g cap w5 hown5 hgrow hat hg5; have e5 : w5.cell? ⟨S, 1, none⟩ = some (Value.slice aO LO.length cO) := (hgrow.cell_far ⟨S, 1, none⟩ (by simp; omega) hlo).trans ((((Below.refl w4.heap.size w4).alloc (Nat.le_refl _) _).cell (show S < w4.heap.size by omega)).trans d4); have f5 : w5.frozen? ⟨S, 1, none⟩ = false := (hgrow.frozen_far ⟨S, 1, none⟩ (by simp; omega) hlo).trans ((((Below.refl w4.heap.size w4).alloc (Nat.le_refl _) _).frozen (show S < w4.heap.size by omega)).trans f4))
      | (go_simp; go_at_call 95; refine (HC.out _ ?_).mono ?_; (first | exact (Below.refl _ _).drew | exact Below.refl _ _); rintro e w4 ⟨aF, nF, cF, aU, nU, cU, qL, vN', rfl, h4, hP4, hy4, hS4, hN4, hok4, d4, f4, hO4, z4⟩; have n4 : w4.heap.size ≠ S := (by omega); have n4' : S < w4.heap.size := (by omega)))
    all_goals (
      have g5S : w5.heap[S]? = some (.cells #[.slice aR LR.length cR, .slice aO LO.length cO, .slice aI LI.length cI, .slice aU' LU.length cU', vN'] 133 (0, 0)) := (hgrow.block S (by simp; omega) hlo).trans ((alloc_other _ _ _ n4').trans hS4)
      have hst : ∀ T, 163 ≠ T → 133 ≠ T → Stay T S w4 (w5.setCell ⟨S, 1, none⟩ (Value.slice (some ⟨g, 0, none⟩) (LO.length + 1) cap)) := fun T h1 h2 => ((Stay.alloc _).trans (Stay.grown hgrow (hO4.alloc _) rfl h1)).trans (Stay.setT g5S h2 1 (Value.slice (some ⟨g, 0, none⟩) (LO.length + 1) cap))
      have hin : Inner S w4 (w5.setCell ⟨S, 1, none⟩ (Value.slice (some ⟨g, 0, none⟩) (LO.length + 1) cap)) := ⟨hst _ (by decide) (by decide), hst _ (by decide) (by decide), hst _ (by decide) (by decide), hst _ (by decide) (by decide), hst _ (by decide) (by decide)⟩
      have hiy : Inner S w1 w4 := hy4.inner
      have hsy : ∀ T, T ≠ 193 → T ≠ 133 → T ≠ 152 → 163 ≠ T → Stay T S w1 (w5.setCell ⟨S, 1, none⟩ (Value.slice (some ⟨g, 0, none⟩) (LO.length + 1) cap)) := fun T h1 h2 h3 h4 => (hy4.stay h1 h2 h3).trans (hst T h4 (fun e => h2 e.symm))
      have gS := ((h4.alloc _).grown' hgrow hlob hlog).set (F := S) (by omega) (by omega) 1 (Value.slice (some ⟨g, 0, none⟩) (LO.length + 1) cap)
      have gP := ((hP4.alloc _).grown' hgrow hlop).set g5S (by decide) 1 (Value.slice (some ⟨g, 0, none⟩) (LO.length + 1) cap)
      have gJ : RowG (w5.setCell ⟨S, 1, none⟩ (Value.slice (some ⟨g, 0, none⟩) (LO.length + 1) cap)) S 163 4 (Value.slice (some ⟨g, 0, none⟩) (LO.length + 1) cap) flO (okO S) (LO ++ [(el.1, Value.slice aF nF cF, Value.slice aU nU cU, Value.pointer qL)]) := ⟨by rw [List.length_append, List.flatMap_append]; exact ownsRow_stay hown5 (Stay.setT g5S (by decide) 1 (Value.slice (some ⟨g, 0, none⟩) (LO.length + 1) cap)), fun x hx => by
        rcases List.mem_append.1 hx with hx | hx
        · exact okO.stays hin (okO.stays hiy (HO1.out.ok x hx))
        · rw [List.mem_singleton] at hx; subst hx; exact okO.stays hin hok4⟩
      have gvR := HR1.out.stays (hsy 154 (by decide) (by decide) (by decide) (by decide)) (fun x hx => okR.stays hin (okR.stays hiy hx))
      have gvI := HI1.out.stays (hsy 197 (by decide) (by decide) (by decide) (by decide)) (fun x hx => okI.stays hin (okI.stays hiy hx))
      have gvU := HU1.out.stays (hsy 200 (by decide) (by decide) (by decide) (by decide)) (fun x hx => okU.stays hin (okU.stays hiy hx))
      have gN := ownsRow_stay hN4 (hst 152 (by decide) (by decide))
      have gL := ((HL1.out.trans hy4.lo).trans ((Lo.of_below ((Below.refl w4.heap.size w4).alloc (Nat.le_refl _) _)).trans (Lo.of_grown hgrow hrd))).set (Nat.le_refl S) 1 (Value.slice (some ⟨g, 0, none⟩) (LO.length + 1) cap)
      have HX := hide (show PS _ b G FF.2 ∧ PP _ p b S ∧ SchP _ S FF.1 ∧ Lo b S w _ from ⟨by rw [HQ.out]; exact gS, gP, by rw [HQ.out]; exact ⟨(.slice aR LR.length cR), (Value.slice (some ⟨g, 0, none⟩) (LO.length + 1) cap), (.slice aI LI.length cI), (.slice aU' LU.length cU'), vN', LR, (LO ++ [(el.1, Value.slice aF nF cF, Value.slice aU nU cU, Value.pointer qL)]), LI, LU, setCell_block g5S 1 (Value.slice (some ⟨g, 0, none⟩) (LO.length + 1) cap), gvR, gJ, gvI, gvU, gN, HMR.out, by rw [List.map_append, HMO.out]; rfl, HMI.out, HMU.out⟩, gL⟩)
      clear gS gP gJ gN gvR gvI gvU hst hin hiy hsy g5S hown5 hgrow h4 hP4 hy4 hS4 hN4 hok4 hO4
      go_wp2_with fail
      go_end0
      exact ⟨rfl, HX.out⟩)
  by_cases e3 : nm s = bIface
  · skip
    have HQ := hide (show pDef c s = ({ c with ifs := c.ifs ++ [⟨nm (nmT s), (pFields (nmT (nmT s))).1⟩], names := c.names ++ [nm (nmT s)] }, (pFields (nmT (nmT s))).2) from by unfold pDef; rw [if_neg e1, if_neg e2, if_pos e3])
    rw [decide_eq_false (show ¬ nm s = ofB _ from e1)] at L1
    rw [decide_eq_false (show ¬ nm s = ofB _ from e2)] at L2
    rw [decide_eq_true (show nm s = ofB _ from e3)] at L3
    clear e1 e2 e3 L4
    generalize pDef c s = FF at *
    generalize nm s = n0 at *
    generalize nmT s = s1 at *
    have hcl := fun W (vR vO vI vU vN : Value) (names : List ByteArray) (hP : PP W p b S) (h : PS W b G s1) (hS : SC W S vR vO vI vU vN) (hN : W.ownsRow S 152 1 vN names.length (strsV names)) (hnl : names.length ≤ 100000) => readInterface_any W p b S G s1 vR vO vI vU vN names hP h hS hN hbS hGS hnl
    generalize nm s1 = en at *
    generalize pFields (nmT s1) = el at *
    go_enter Tryz.func53, Tryz.ntmps53
    go_wp2_with fail
    refine hc.mono ?_
    clear hc
    rintro e w1 ⟨rfl, h1, k1⟩
    have hy1 : KeepY b S w w1 := KeepY.of_keep k1 H0.out.ty.choose_spec
    have hst : ∀ T, T ≠ 193 → Stay T S w w1 := fun T hT => H0.out.stay k1 hT
    have hin1 : Inner S w w1 := ⟨hst _ (by decide), hst _ (by decide), hst _ (by decide), hst _ (by decide), hst _ (by decide)⟩
    have HS1 := hide (k1.at HS0.out (by omega))
    have HR1 := hide (HR0.out.stays (hst _ (by decide)) (fun x hx => okR.stays hin1 hx))
    have HO1 := hide (HO0.out.stays (hst _ (by decide)) (fun x hx => okO.stays hin1 hx))
    have HI1 := hide (HI0.out.stays (hst _ (by decide)) (fun x hx => okI.stays hin1 hx))
    have HU1 := hide (HU0.out.stays (hst _ (by decide)) (fun x hx => okU.stays hin1 hx))
    have HN1 := hide (ownsRow_stay HN0.out (hst _ (by decide)))
    have HP1 := hide (HP0.out.keep H0.out k1)
    have H1 := hide (show PS w1 b G s1 from h1)
    have HL1 := hide (Lo.of_keep (S := S) k1)
    clear h1 k1 hy1 hst hin1 H0 HP0 HS0 HR0 HO0 HI0 HU0 HN0
    have zw1 := lt_of_block HS1.out
    have zp1 := HP1.out.lt
    have dA : w1.cell? ⟨S, 2, none⟩ = some (.slice aI LI.length cI) := cell_of_block HS1.out 2
    have fA := frozen_of_block HS1.out 2
    have HC := hide (show ∀ W, Below w1.heap.size w1 W → Calls Tryz.prog 96 #[.pointer (some ⟨p, 0, none⟩)] W fun e w' => ∃ aU nU cU vN', e = .returned (.agg #[.string en, .slice aU nU cU]) ∧ PS w' b G el.2 ∧ PP w' p b S ∧ KeepY b S w1 w' ∧ w'.heap[S]? = some (.cells #[.slice aR LR.length cR, .slice aO LO.length cO, .slice aI LI.length cI, .slice aU' LU.length cU', vN'] 133 (0, 0)) ∧ w'.ownsRow S 152 1 vN' (c.names ++ [en]).length (strsV (c.names ++ [en])) ∧ okI S w' ((⟨en, el.1⟩ : PIf), Value.slice aU nU cU) ∧ w'.cell? ⟨S, 2, none⟩ = some (Value.slice aI LI.length cI) ∧ w'.frozen? ⟨S, 2, none⟩ = false ∧ w'.ownsRow S 197 2 (Value.slice aI LI.length cI) LI.length (LI.flatMap flI) ∧ w1.heap.size ≤ w'.heap.size from fun W hW => (hcl W _ _ _ _ vN c.names (HP1.out.below hW) (H1.out.below hW) ((hW.block S zw1).trans HS1.out) (ownsRow_below HN1.out hW) hnl).mono (by
      rintro e w' ⟨vF, a1, t1, t2, dp⟩
      obtain ⟨aU, cU, rfl⟩ := t1.slice
      obtain ⟨a2, a7, a8, vN', hS', hN'⟩ := dp
      have a9 : KeepY b S w1 w' := (KeepY.of_below hW).trans a8
      exact ⟨aU, _, cU, vN', a1, a2, a7, a9, hS', hN', ⟨t1.mono (by have := hW.size; omega), t2⟩, cell_of_block hS' 2, frozen_of_block hS' 2, ownsRow_stay HI1.out.own (a9.stay (by decide) (by decide) (by decide)), a9.size⟩))
    have hlo : Option.some S ≠ (Value.slice aI LI.length cI).ownBlock := own_far HI1.out.own HS1.out (by decide)
    have hrd : ∀ k, (Value.slice aI LI.length cI).ownBlock = some k → S ≤ k := fun k hk => (HI1.out.own.lt k hk).1
    have hlob : Option.some b ≠ (Value.slice aI LI.length cI).ownBlock := fun e => by have := hrd b e.symm; omega
    have hlog : Option.some G ≠ (Value.slice aI LI.length cI).ownBlock := fun e => by have := hrd G e.symm; omega
    have hlop : Option.some p ≠ (Value.slice aI LI.length cI).ownBlock := own_far HI1.out.own HP1.out (by decide)
    obtain ⟨i0, hi, hz0, hz1, hz2⟩ := info_parts Tryz.info197
    clear hcl
    go_wp2_with fail
    go_region_law (first
      | (refine step_append_lies _ (by rfl) _ _ _ (by rfl) S 197 i0 _ 2 40 Tryz.underlying129 hi hz0 hz1 hz2 rfl (by decide) _ _ _ (by rfl) (hO4.alloc _) ⟨w4.heap.size, 0, none⟩ 1 1 [.string en, .slice aU nU cU] (by rfl) (by rfl) (cells_new' _ _ _ _ (by simp)) (one2 rfl rfl) (by decide) (by unfold maxLen; omega) (by omega) (by simp; omega) (w4.heap.size + 1) (by simp) ?_; intro g cap w5 hown5 hgrow hat hg5; have e5 : w5.cell? ⟨S, 2, none⟩ = some (Value.slice aI LI.length cI) := (hgrow.cell_far ⟨S, 2, none⟩ (by simp; omega) hlo).trans ((((Below.refl w4.heap.size w4).alloc (Nat.le_refl _) _).cell (show S < w4.heap.size by omega)).trans d4); have f5 : w5.frozen? ⟨S, 2, none⟩ = false := (hgrow.frozen_far ⟨S, 2, none⟩ (by simp; omega) hlo).trans ((((Below.refl w4.heap.size w4).alloc (Nat.le_refl _) _).frozen (show S < w4.heap.size by omega)).trans f4))
      | (go_simp; go_at_call 96; refine (HC.out _ ?_).mono ?_; (first | exact (Below.refl _ _).drew | exact Below.refl _ _); rintro e w4 ⟨aU, nU, cU, vN', rfl, h4, hP4, hy4, hS4, hN4, hok4, d4, f4, hO4, z4⟩; have n4 : w4.heap.size ≠ S := (by omega); have n4' : S < w4.heap.size := (by omega)))
    all_goals (
      have g5S : w5.heap[S]? = some (.cells #[.slice aR LR.length cR, .slice aO LO.length cO, .slice aI LI.length cI, .slice aU' LU.length cU', vN'] 133 (0, 0)) := (hgrow.block S (by simp; omega) hlo).trans ((alloc_other _ _ _ n4').trans hS4)
      have hst : ∀ T, 197 ≠ T → 133 ≠ T → Stay T S w4 (w5.setCell ⟨S, 2, none⟩ (Value.slice (some ⟨g, 0, none⟩) (LI.length + 1) cap)) := fun T h1 h2 => ((Stay.alloc _).trans (Stay.grown hgrow (hO4.alloc _) rfl h1)).trans (Stay.setT g5S h2 2 (Value.slice (some ⟨g, 0, none⟩) (LI.length + 1) cap))
      have hin : Inner S w4 (w5.setCell ⟨S, 2, none⟩ (Value.slice (some ⟨g, 0, none⟩) (LI.length + 1) cap)) := ⟨hst _ (by decide) (by decide), hst _ (by decide) (by decide), hst _ (by decide) (by decide), hst _ (by decide) (by decide), hst _ (by decide) (by decide)⟩
      have hiy : Inner S w1 w4 := hy4.inner
      have hsy : ∀ T, T ≠ 193 → T ≠ 133 → T ≠ 152 → 197 ≠ T → Stay T S w1 (w5.setCell ⟨S, 2, none⟩ (Value.slice (some ⟨g, 0, none⟩) (LI.length + 1) cap)) := fun T h1 h2 h3 h4 => (hy4.stay h1 h2 h3).trans (hst T h4 (fun e => h2 e.symm))
      have gS := ((h4.alloc _).grown' hgrow hlob hlog).set (F := S) (by omega) (by omega) 2 (Value.slice (some ⟨g, 0, none⟩) (LI.length + 1) cap)
      have gP := ((hP4.alloc _).grown' hgrow hlop).set g5S (by decide) 2 (Value.slice (some ⟨g, 0, none⟩) (LI.length + 1) cap)
      have gJ : RowG (w5.setCell ⟨S, 2, none⟩ (Value.slice (some ⟨g, 0, none⟩) (LI.length + 1) cap)) S 197 2 (Value.slice (some ⟨g, 0, none⟩) (LI.length + 1) cap) flI (okI S) (LI ++ [((⟨en, el.1⟩ : PIf), Value.slice aU nU cU)]) := ⟨by rw [List.length_append, List.flatMap_append]; exact ownsRow_stay hown5 (Stay.setT g5S (by decide) 2 (Value.slice (some ⟨g, 0, none⟩) (LI.length + 1) cap)), fun x hx => by
        rcases List.mem_append.1 hx with hx | hx
        · exact okI.stays hin (okI.stays hiy (HI1.out.ok x hx))
        · rw [List.mem_singleton] at hx; subst hx; exact okI.stays hin hok4⟩
      have gvR := HR1.out.stays (hsy 154 (by decide) (by decide) (by decide) (by decide)) (fun x hx => okR.stays hin (okR.stays hiy hx))
      have gvO := HO1.out.stays (hsy 163 (by decide) (by decide) (by decide) (by decide)) (fun x hx => okO.stays hin (okO.stays hiy hx))
      have gvU := HU1.out.stays (hsy 200 (by decide) (by decide) (by decide) (by decide)) (fun x hx => okU.stays hin (okU.stays hiy hx))
      have gN := ownsRow_stay hN4 (hst 152 (by decide) (by decide))
      have gL := ((HL1.out.trans hy4.lo).trans ((Lo.of_below ((Below.refl w4.heap.size w4).alloc (Nat.le_refl _) _)).trans (Lo.of_grown hgrow hrd))).set (Nat.le_refl S) 2 (Value.slice (some ⟨g, 0, none⟩) (LI.length + 1) cap)
      have HX := hide (show PS _ b G FF.2 ∧ PP _ p b S ∧ SchP _ S FF.1 ∧ Lo b S w _ from ⟨by rw [HQ.out]; exact gS, gP, by rw [HQ.out]; exact ⟨(.slice aR LR.length cR), (.slice aO LO.length cO), (Value.slice (some ⟨g, 0, none⟩) (LI.length + 1) cap), (.slice aU' LU.length cU'), vN', LR, LO, (LI ++ [((⟨en, el.1⟩ : PIf), Value.slice aU nU cU)]), LU, setCell_block g5S 2 (Value.slice (some ⟨g, 0, none⟩) (LI.length + 1) cap), gvR, gvO, gJ, gvU, gN, HMR.out, HMO.out, by rw [List.map_append, HMI.out]; rfl, HMU.out⟩, gL⟩)
      clear gS gP gJ gN gvR gvO gvU hst hin hiy hsy g5S hown5 hgrow h4 hP4 hy4 hS4 hN4 hok4 hO4
      go_wp2_with fail
      go_end0
      exact ⟨rfl, HX.out⟩)
  by_cases e4 : nm s = bUnion'
  · skip
    have HQ := hide (show pDef c s = ({ c with uns := c.uns ++ [⟨nm (nmT s), (pMembers (nmT (nmT s))).1⟩], names := c.names ++ [nm (nmT s)] }, (pMembers (nmT (nmT s))).2) from by unfold pDef; rw [if_neg e1, if_neg e2, if_neg e3, if_pos e4])
    rw [decide_eq_false (show ¬ nm s = ofB _ from e1)] at L1
    rw [decide_eq_false (show ¬ nm s = ofB _ from e2)] at L2
    rw [decide_eq_false (show ¬ nm s = ofB _ from e3)] at L3
    rw [decide_eq_true (show nm s = ofB _ from e4)] at L4
    clear e1 e2 e3 e4
    generalize pDef c s = FF at *
    generalize nm s = n0 at *
    generalize nmT s = s1 at *
    have hcl := fun W (vR vO vI vU vN : Value) (names : List ByteArray) (hP : PP W p b S) (h : PS W b G s1) (hS : SC W S vR vO vI vU vN) (hN : W.ownsRow S 152 1 vN names.length (strsV names)) (hnl : names.length ≤ 100000) => readUnion_any W p b S G s1 vR vO vI vU vN names hP h hS hN hbS hGS hnl
    generalize nm s1 = en at *
    generalize pMembers (nmT s1) = el at *
    go_enter Tryz.func53, Tryz.ntmps53
    go_wp2_with fail
    refine hc.mono ?_
    clear hc
    rintro e w1 ⟨rfl, h1, k1⟩
    have hy1 : KeepY b S w w1 := KeepY.of_keep k1 H0.out.ty.choose_spec
    have hst : ∀ T, T ≠ 193 → Stay T S w w1 := fun T hT => H0.out.stay k1 hT
    have hin1 : Inner S w w1 := ⟨hst _ (by decide), hst _ (by decide), hst _ (by decide), hst _ (by decide), hst _ (by decide)⟩
    have HS1 := hide (k1.at HS0.out (by omega))
    have HR1 := hide (HR0.out.stays (hst _ (by decide)) (fun x hx => okR.stays hin1 hx))
    have HO1 := hide (HO0.out.stays (hst _ (by decide)) (fun x hx => okO.stays hin1 hx))
    have HI1 := hide (HI0.out.stays (hst _ (by decide)) (fun x hx => okI.stays hin1 hx))
    have HU1 := hide (HU0.out.stays (hst _ (by decide)) (fun x hx => okU.stays hin1 hx))
    have HN1 := hide (ownsRow_stay HN0.out (hst _ (by decide)))
    have HP1 := hide (HP0.out.keep H0.out k1)
    have H1 := hide (show PS w1 b G s1 from h1)
    have HL1 := hide (Lo.of_keep (S := S) k1)
    clear h1 k1 hy1 hst hin1 H0 HP0 HS0 HR0 HO0 HI0 HU0 HN0
    have zw1 := lt_of_block HS1.out
    have zp1 := HP1.out.lt
    have dA : w1.cell? ⟨S, 3, none⟩ = some (.slice aU' LU.length cU') := cell_of_block HS1.out 3
    have fA := frozen_of_block HS1.out 3
    have HC := hide (show ∀ W, Below w1.heap.size w1 W → Calls Tryz.prog 97 #[.pointer (some ⟨p, 0, none⟩)] W fun e w' => ∃ aU nU cU vN', e = .returned (.agg #[.string en, .slice aU nU cU]) ∧ PS w' b G el.2 ∧ PP w' p b S ∧ KeepY b S w1 w' ∧ w'.heap[S]? = some (.cells #[.slice aR LR.length cR, .slice aO LO.length cO, .slice aI LI.length cI, .slice aU' LU.length cU', vN'] 133 (0, 0)) ∧ w'.ownsRow S 152 1 vN' (c.names ++ [en]).length (strsV (c.names ++ [en])) ∧ okU S w' ((⟨en, el.1⟩ : PUn), Value.slice aU nU cU) ∧ w'.cell? ⟨S, 3, none⟩ = some (Value.slice aU' LU.length cU') ∧ w'.frozen? ⟨S, 3, none⟩ = false ∧ w'.ownsRow S 200 2 (Value.slice aU' LU.length cU') LU.length (LU.flatMap flU) ∧ w1.heap.size ≤ w'.heap.size from fun W hW => (hcl W _ _ _ _ vN c.names (HP1.out.below hW) (H1.out.below hW) ((hW.block S zw1).trans HS1.out) (ownsRow_below HN1.out hW) hnl).mono (by
      rintro e w' ⟨vF, a1, t1, t2, dp⟩
      obtain ⟨aU, cU, rfl⟩ := own_slice t1
      obtain ⟨a2, a7, a8, vN', hS', hN'⟩ := dp
      have a9 : KeepY b S w1 w' := (KeepY.of_below hW).trans a8
      exact ⟨aU, _, cU, vN', a1, a2, a7, a9, hS', hN', ⟨ownsRow_lower t1 (by have := hW.size; omega), t2⟩, cell_of_block hS' 3, frozen_of_block hS' 3, ownsRow_stay HU1.out.own (a9.stay (by decide) (by decide) (by decide)), a9.size⟩))
    have hlo : Option.some S ≠ (Value.slice aU' LU.length cU').ownBlock := own_far HU1.out.own HS1.out (by decide)
    have hrd : ∀ k, (Value.slice aU' LU.length cU').ownBlock = some k → S ≤ k := fun k hk => (HU1.out.own.lt k hk).1
    have hlob : Option.some b ≠ (Value.slice aU' LU.length cU').ownBlock := fun e => by have := hrd b e.symm; omega
    have hlog : Option.some G ≠ (Value.slice aU' LU.length cU').ownBlock := fun e => by have := hrd G e.symm; omega
    have hlop : Option.some p ≠ (Value.slice aU' LU.length cU').ownBlock := own_far HU1.out.own HP1.out (by decide)
    obtain ⟨i0, hi, hz0, hz1, hz2⟩ := info_parts Tryz.info200
    clear hcl
    go_wp2_with fail
    go_region_law (first
      | (refine step_append_lies _ (by rfl) _ _ _ (by rfl) S 200 i0 _ 2 40 Tryz.underlying130 hi hz0 hz1 hz2 rfl (by decide) _ _ _ (by rfl) (hO4.alloc _) ⟨w4.heap.size, 0, none⟩ 1 1 [.string en, .slice aU nU cU] (by rfl) (by rfl) (cells_new' _ _ _ _ (by simp)) (one2 rfl rfl) (by decide) (by unfold maxLen; omega) (by omega) (by simp; omega) (w4.heap.size + 1) (by simp) ?_; intro g cap w5 hown5 hgrow hat hg5; have e5 : w5.cell? ⟨S, 3, none⟩ = some (Value.slice aU' LU.length cU') := (hgrow.cell_far ⟨S, 3, none⟩ (by simp; omega) hlo).trans ((((Below.refl w4.heap.size w4).alloc (Nat.le_refl _) _).cell (show S < w4.heap.size by omega)).trans d4); have f5 : w5.frozen? ⟨S, 3, none⟩ = false := (hgrow.frozen_far ⟨S, 3, none⟩ (by simp; omega) hlo).trans ((((Below.refl w4.heap.size w4).alloc (Nat.le_refl _) _).frozen (show S < w4.heap.size by omega)).trans f4))
      | (go_simp; go_at_call 97; refine (HC.out _ ?_).mono ?_; (first | exact (Below.refl _ _).drew | exact Below.refl _ _); rintro e w4 ⟨aU, nU, cU, vN', rfl, h4, hP4, hy4, hS4, hN4, hok4, d4, f4, hO4, z4⟩; have n4 : w4.heap.size ≠ S := (by omega); have n4' : S < w4.heap.size := (by omega)))
    all_goals (
      have g5S : w5.heap[S]? = some (.cells #[.slice aR LR.length cR, .slice aO LO.length cO, .slice aI LI.length cI, .slice aU' LU.length cU', vN'] 133 (0, 0)) := (hgrow.block S (by simp; omega) hlo).trans ((alloc_other _ _ _ n4').trans hS4)
      have hst : ∀ T, 200 ≠ T → 133 ≠ T → Stay T S w4 (w5.setCell ⟨S, 3, none⟩ (Value.slice (some ⟨g, 0, none⟩) (LU.length + 1) cap)) := fun T h1 h2 => ((Stay.alloc _).trans (Stay.grown hgrow (hO4.alloc _) rfl h1)).trans (Stay.setT g5S h2 3 (Value.slice (some ⟨g, 0, none⟩) (LU.length + 1) cap))
      have hin : Inner S w4 (w5.setCell ⟨S, 3, none⟩ (Value.slice (some ⟨g, 0, none⟩) (LU.length + 1) cap)) := ⟨hst _ (by decide) (by decide), hst _ (by decide) (by decide), hst _ (by decide) (by decide), hst _ (by decide) (by decide), hst _ (by decide) (by decide)⟩
      have hiy : Inner S w1 w4 := hy4.inner
      have hsy : ∀ T, T ≠ 193 → T ≠ 133 → T ≠ 152 → 200 ≠ T → Stay T S w1 (w5.setCell ⟨S, 3, none⟩ (Value.slice (some ⟨g, 0, none⟩) (LU.length + 1) cap)) := fun T h1 h2 h3 h4 => (hy4.stay h1 h2 h3).trans (hst T h4 (fun e => h2 e.symm))
      have gS := ((h4.alloc _).grown' hgrow hlob hlog).set (F := S) (by omega) (by omega) 3 (Value.slice (some ⟨g, 0, none⟩) (LU.length + 1) cap)
      have gP := ((hP4.alloc _).grown' hgrow hlop).set g5S (by decide) 3 (Value.slice (some ⟨g, 0, none⟩) (LU.length + 1) cap)
      have gJ : RowG (w5.setCell ⟨S, 3, none⟩ (Value.slice (some ⟨g, 0, none⟩) (LU.length + 1) cap)) S 200 2 (Value.slice (some ⟨g, 0, none⟩) (LU.length + 1) cap) flU (okU S) (LU ++ [((⟨en, el.1⟩ : PUn), Value.slice aU nU cU)]) := ⟨by rw [List.length_append, List.flatMap_append]; exact ownsRow_stay hown5 (Stay.setT g5S (by decide) 3 (Value.slice (some ⟨g, 0, none⟩) (LU.length + 1) cap)), fun x hx => by
        rcases List.mem_append.1 hx with hx | hx
        · exact okU.stays hin (okU.stays hiy (HU1.out.ok x hx))
        · rw [List.mem_singleton] at hx; subst hx; exact okU.stays hin hok4⟩
      have gvR := HR1.out.stays (hsy 154 (by decide) (by decide) (by decide) (by decide)) (fun x hx => okR.stays hin (okR.stays hiy hx))
      have gvO := HO1.out.stays (hsy 163 (by decide) (by decide) (by decide) (by decide)) (fun x hx => okO.stays hin (okO.stays hiy hx))
      have gvI := HI1.out.stays (hsy 197 (by decide) (by decide) (by decide) (by decide)) (fun x hx => okI.stays hin (okI.stays hiy hx))
      have gN := ownsRow_stay hN4 (hst 152 (by decide) (by decide))
      have gL := ((HL1.out.trans hy4.lo).trans ((Lo.of_below ((Below.refl w4.heap.size w4).alloc (Nat.le_refl _) _)).trans (Lo.of_grown hgrow hrd))).set (Nat.le_refl S) 3 (Value.slice (some ⟨g, 0, none⟩) (LU.length + 1) cap)
      have HX := hide (show PS _ b G FF.2 ∧ PP _ p b S ∧ SchP _ S FF.1 ∧ Lo b S w _ from ⟨by rw [HQ.out]; exact gS, gP, by rw [HQ.out]; exact ⟨(.slice aR LR.length cR), (.slice aO LO.length cO), (.slice aI LI.length cI), (Value.slice (some ⟨g, 0, none⟩) (LU.length + 1) cap), vN', LR, LO, LI, (LU ++ [((⟨en, el.1⟩ : PUn), Value.slice aU nU cU)]), setCell_block g5S 3 (Value.slice (some ⟨g, 0, none⟩) (LU.length + 1) cap), gvR, gvO, gvI, gJ, gN, HMR.out, HMO.out, HMI.out, by rw [List.map_append, HMU.out]; rfl⟩, gL⟩)
      clear gS gP gJ gN gvR gvO gvI hst hin hiy hsy g5S hown5 hgrow h4 hP4 hy4 hS4 hN4 hok4 hO4
      go_wp2_with fail
      go_end0
      exact ⟨rfl, HX.out⟩)
  rw [show pDef c s = (c, none) from by unfold pDef; rw [if_neg e1, if_neg e2, if_neg e3, if_neg e4]]
  rw [decide_eq_false (show ¬ nm s = ofB _ from e1)] at L1
  rw [decide_eq_false (show ¬ nm s = ofB _ from e2)] at L2
  rw [decide_eq_false (show ¬ nm s = ofB _ from e3)] at L3
  rw [decide_eq_false (show ¬ nm s = ofB _ from e4)] at L4
  clear e1 e2 e3 e4
  generalize nm s = n0 at *
  generalize nmT s = s1 at *
  go_enter Tryz.func53, Tryz.ntmps53
  go_wp2_with fail
  refine hc.mono ?_
  clear hc
  rintro e w1 ⟨rfl, h1, k1⟩
  have HP1 := hide (HP0.out.keep H0.out k1)
  have c1 := HP1.out.c0
  have hf := fail_any w1 b G s1 h1
  have H1 := hide h1
  have K1 := hide k1
  clear h1 k1
  go_wp2_with fail
  refine hf.mono ?_
  clear hf
  rintro e w2 ⟨rfl, h2, k2⟩
  have hk := K1.out.trans k2
  have hst : ∀ T, T ≠ 193 → Stay T S w w2 := fun T hT => H0.out.stay hk hT
  have hin1 : Inner S w w2 := ⟨hst _ (by decide), hst _ (by decide), hst _ (by decide), hst _ (by decide), hst _ (by decide)⟩
  have HX := hide (show PS w2 b G none ∧ PP w2 p b S ∧ SchP w2 S c ∧ Lo b S w w2 from ⟨h2, HP1.out.keep H1.out k2, (show SchP w2 S c from ⟨_, _, _, _, vN, LR, LO, LI, LU, hk.at HS0.out (by omega), HR0.out.stays (hst _ (by decide)) (fun x hx => okR.stays hin1 hx), HO0.out.stays (hst _ (by decide)) (fun x hx => okO.stays hin1 hx), HI0.out.stays (hst _ (by decide)) (fun x hx => okI.stays hin1 hx), HU0.out.stays (hst _ (by decide)) (fun x hx => okU.stays hin1 hx), ownsRow_stay HN0.out (hst _ (by decide)), HMR.out, HMO.out, HMI.out, HMU.out⟩), Lo.of_keep hk⟩)
  clear h2 k2 hk hst hin1
  go_wp2_with fail
  go_end0
  exact ⟨rfl, HX.out⟩
end Go.Proofs.YtpggfgjongkihaaGreat
namespace Go.Proofs.YtpggfgjongkihaaGreat
open Go.RowKit
theorem ln_pIncF : ∀ (f : Nat) (s : St), ln (pIncF f s).2 ≤ ln s
  | 0, s => Nat.le_refl _
  | f + 1, s => by
    rw [pIncF]
    split
    · exact Nat.le_trans (ln_pIncF f _) (ln_nmT s)
    · exact Nat.le_refl _
theorem ln_pRole (s : St) : ln (pRole s).2 ≤ ln s := by
  unfold pRole
  split
  · unfold incEnd
    simp only []
    split
    · simp [ln]
    · exact Nat.le_trans (ln_pIncF _ _) (Nat.le_trans (ln_tl_le _) (ln_nmT s))
  · exact ln_nmT s
theorem ln_pImplF : ∀ (f : Nat) (s : St), ln (pImplF f s).2 ≤ ln s
  | 0, s => Nat.le_refl _
  | f + 1, s => by
    rw [pImplF]
    split
    · exact Nat.le_trans (ln_pImplF f _) (ln_nmT s)
    · exact Nat.le_refl _
theorem ln_pImpl (s : St) : ln (pImpl s).2 ≤ ln s := by
  unfold pImpl
  split
  · exact Nat.le_trans (ln_pImplF _ _) (Nat.le_trans (ln_nmT _) (ln_tl_le s))
  · exact Nat.le_refl _
theorem ln_pRows (s : St) : ln (pRows s).2 ≤ ln s := by
  unfold pRows
  split
  · refine Nat.le_trans (ln_mustT _ _) (Nat.le_trans (ln_chain _ _ (ln_chain _ _ (ln_pUnit _)) _) ?_)
    unfold pRows2
    exact Nat.le_trans (ln_mustT _ _) (Nat.le_trans (ln_mustT _ _) (ln_tl_le s))
  · exact Nat.le_refl _
theorem ln_pObject (s : St) : ln (pObject s).2 ≤ ln s := by
  unfold pObject
  dsimp only
  exact Nat.le_trans (ln_pFields _) (Nat.le_trans (ln_pRows _) (Nat.le_trans (ln_pImpl _) (ln_nmT s)))
theorem ln_pMemF : ∀ (f : Nat) (s : St), ln (pMemF f s).2 ≤ ln s
  | 0, s => Nat.le_refl _
  | f + 1, s => by
    rw [pMemF]
    split
    · exact Nat.le_trans (ln_pMemF f _) (Nat.le_trans (ln_nmT _) (ln_tl_le s))
    · exact Nat.le_refl _
theorem ln_pMembers (s : St) : ln (pMembers s).2 ≤ ln s := by
  unfold pMembers
  exact Nat.le_trans (ln_pMemF _ _) (Nat.le_trans (ln_nmT _) (ln_mustT _ _))
theorem ln_pDef (c : PSch) (s : St) : ln (pDef c s).2 ≤ ln (nmT s) := by
  unfold pDef
  split
  · dsimp only
    exact ln_pRole _
  · split
    · dsimp only
      exact ln_pObject _
    · split
      · dsimp only
        exact Nat.le_trans (ln_pFields _) (ln_nmT _)
      · split
        · dsimp only
          exact Nat.le_trans (ln_pMembers _) (ln_nmT _)
        · exact Nat.zero_le _
/-- no list of a schema is longer than this -/
def lensLe (c : PSch) (n : Nat) : Prop := c.roles.length ≤ n ∧ c.objs.length ≤ n ∧ c.ifs.length ≤ n ∧ c.uns.length ≤ n ∧ c.names.length ≤ n
theorem lens_pDef (c : PSch) (s : St) (n : Nat) (h : lensLe c n) : lensLe (pDef c s).1 (n + 1) := by
  obtain ⟨h1, h2, h3, h4, h5⟩ := h
  unfold pDef lensLe
  split
  · refine ⟨?_, ?_, ?_, ?_, ?_⟩ <;> simp <;> omega
  · split
    · refine ⟨?_, ?_, ?_, ?_, ?_⟩ <;> simp <;> omega
    · split
      · refine ⟨?_, ?_, ?_, ?_, ?_⟩ <;> simp <;> omega
      · split
        · refine ⟨?_, ?_, ?_, ?_, ?_⟩ <;> simp <;> omega
        · refine ⟨?_, ?_, ?_, ?_, ?_⟩ <;> simp only [] <;> omega
def pLoop : Nat → PSch → St → PSch × St
  | 0, c, s => (c, s)
  | f + 1, c, s => if atEnd s = true then (c, s) else pLoop f (pDef c s).1 (pDef c s).2
def c00 : PSch := ⟨[], [], [], [], []⟩
def pParse (s : St) : PSch × St := pLoop 801 (pDef c00 s).1 (pDef c00 s).2
theorem pLoop_stop (f : Nat) (c : PSch) (s : St) (h : atEnd s = true) : pLoop f c s = (c, s) := by
  cases f with
  | zero => rfl
  | succ f => rw [pLoop, if_pos h]
theorem atEnd_some (s : St) (h : atEnd s = false) : s.isNone = false := by
  match s, h with
  | some l, _ => rfl
theorem SchP.below {w w' : World} {S : Nat} {c : PSch} (h : SchP w S c) (hb : Below w.heap.size w w') : SchP w' S c := by
  obtain ⟨vR, vO, vI, vU, vN, LR, LO, LI, LU, hS, hR, hO, hI, hU, hN, m⟩ := h.ex
  have hin : Inner S w w' := (KeepY.of_below (b := 0) (S := 0) hb).inner
  exact ⟨vR, vO, vI, vU, vN, LR, LO, LI, LU, (hb.block S (lt_of_block hS)).trans hS, hR.stays (Stay.of_below hb) (fun x hx => okR.stays hin hx), hO.stays (Stay.of_below hb) (fun x hx => okO.stays hin hx), hI.stays (Stay.of_below hb) (fun x hx => okI.stays hin hx), hU.stays (Stay.of_below hb) (fun x hx => okU.stays hin hx), ownsRow_below hN hb, m⟩
theorem RowG.nil {β : Type} (w : World) (B e size : Nat) (flat : β → List Value) (ok : World → β → Prop) : RowG w B e size (.slice none 0 0) flat ok [] := ⟨World.ownsRow_nil _ _ _ _, fun x hx => by cases hx⟩
set_option maxHeartbeats 2000000 in
set_option maxRecDepth 100000 in
theorem parse_any (x : ByteArray) (w : World) (hs : x.size ≤ maxLen) :
    Calls Tryz.prog 31 #[.string x] w fun e w' => ∃ S, e = .returned (.tuple #[.pointer (some ⟨S, 0, none⟩), .bool (doneP (pParse (cutS x)).2)]) ∧ SchP w' S (pParse (cutS x)).1 ∧ lensLe (pParse (cutS x)).1 804 ∧ Below w.heap.size w w' := by
  have hc := read_any x w hs
  have HQ := hide (show pParse (cutS x) = pLoop 801 (pDef c00 (cutS x)).1 (pDef c00 (cutS x)).2 from rfl)
  generalize pParse (cutS x) = FF at *
  generalize cutS x = s0 at *
  go_enter Tryz.func31, Tryz.ntmps31
  go_wp2_with fail
  refine hc.mono ?_
  clear hc
  rintro e w1 ⟨b, G, rfl, hb, h1, hB⟩
  have hlt := h1.lt
  have hgl := h1.glt
  have h2 := h1.below (two_below w1 (.cells #[.slice none 0 0, .slice none 0 0, .slice none 0 0, .slice none 0 0, .slice none 0 0] 133) (.cells #[.pointer (some ⟨b, 0, none⟩), .pointer (some ⟨w1.heap.size, 0, none⟩)] 135))
  have hS2 : SchP ((w1.alloc (.cells #[.slice none 0 0, .slice none 0 0, .slice none 0 0, .slice none 0 0, .slice none 0 0] 133)).alloc (.cells #[.pointer (some ⟨b, 0, none⟩), .pointer (some ⟨w1.heap.size, 0, none⟩)] 135)) w1.heap.size c00 := ⟨_, _, _, _, _, [], [], [], [], two_R _ _ _, RowG.nil _ _ _ _ _ _, RowG.nil _ _ _ _ _ _, RowG.nil _ _ _ _ _ _, RowG.nil _ _ _ _ _ _, World.ownsRow_nil _ _ _ _, rfl, rfl, rfl, rfl⟩
  have hP2 : PP ((w1.alloc (.cells #[.slice none 0 0, .slice none 0 0, .slice none 0 0, .slice none 0 0, .slice none 0 0] 133)).alloc (.cells #[.pointer (some ⟨b, 0, none⟩), .pointer (some ⟨w1.heap.size, 0, none⟩)] 135)) (w1.heap.size + 1) b w1.heap.size := two_F _ _ _
  have hd := readDefinition_any _ (w1.heap.size + 1) b w1.heap.size G s0 c00 hP2 h2 hS2 hlt hgl (by decide) (by decide) (by decide) (by decide) (by decide)
  have hl2 := h1.len
  have hld := ln_pDef c00 s0
  have hln := ln_nmT s0
  have hlens := lens_pDef c00 s0 0 ⟨Nat.le_refl _, Nat.le_refl _, Nat.le_refl _, Nat.le_refl _, Nat.le_refl _⟩
  have HLE := hide hlens
  have HB0 := hide (hB.trans ((two_below w1 (.cells #[.slice none 0 0, .slice none 0 0, .slice none 0 0, .slice none 0 0, .slice none 0 0] 133) (.cells #[.pointer (some ⟨b, 0, none⟩), .pointer (some ⟨w1.heap.size, 0, none⟩)] 135)).mono hB.size))
  have hws := hB.size
  clear h1 h2 hS2 hP2 hB hlens
  generalize pDef c00 s0 = cs at *
  obtain ⟨c1, s1⟩ := cs
  simp only [] at hd HLE HQ hld
  go_wp2_with fail
  refine hd.mono ?_
  clear hd
  rintro e w2 ⟨rfl, h2, hP2, hS2, hL2⟩
  have HB2 := hide (HB0.out.trans (hL2.below hb hws HB0.out.size))
  clear hL2 HB0
  go_wp2_with fail
  go_loopg [] (ln s1) (fun k wr => ∃ (c : PSch) (s' : St) (f m : Nat), ln s' ≤ k ∧ ln s' ≤ f ∧ PS wr b G s' ∧ PP wr (w1.heap.size + 1) b w1.heap.size ∧ SchP wr w1.heap.size c ∧ lensLe c m ∧ m + ln s' ≤ 804 ∧ Below w.heap.size w wr ∧ pLoop 801 c1 s1 = pLoop f c s')
  case atStart => exact ⟨c1, s1, 801, 1, Nat.le_refl _, by omega, h2, hP2, hS2, HLE.out, by omega, HB2.out, rfl⟩
  case round =>
    clear h2 hP2 hS2 HLE
    obtain ⟨c, s', f, m, hlk, hlf, h3, hP3, hS3, hlm, hm, hbw, hrel⟩ := hrel
    have HBW := hide hbw
    clear hbw HB2
    have HM := hide hrel
    have H3 := hide h3
    have HP3 := hide hP3
    have HS3 := hide hS3
    have HLM := hide hlm
    have c3 := hP3.c0
    have c3' := hP3.c1
    have hc := atEnd_any wr b G s' h3
    clear h3 hP3 hS3 hlm hrel
    cases hx : atEnd s'
    · rw [hx] at hc
      have hl1 := ln_nmT_lt s' (atEnd_some s' hx)
      have hl2' := ln_pDef c s'
      obtain ⟨f', rfl⟩ : ∃ f', f = f' + 1 := ⟨f - 1, by omega⟩
      have HE := hide (show pLoop 801 c1 s1 = pLoop f' (pDef c s').1 (pDef c s').2 from by rw [HM.out, pLoop, if_neg (by rw [hx]; simp)])
      have hlm := HLM.out
      have hd := readDefinition_any wr (w1.heap.size + 1) b w1.heap.size G s' c HP3.out H3.out HS3.out hlt hgl (Nat.le_trans hlm.1 (by omega)) (Nat.le_trans hlm.2.1 (by omega)) (Nat.le_trans hlm.2.2.1 (by omega)) (Nat.le_trans hlm.2.2.2.1 (by omega)) (Nat.le_trans hlm.2.2.2.2 (by omega))
      have HLD := hide (lens_pDef c s' m hlm)
      clear hx HM hlm
      generalize pDef c s' = cs at *
      obtain ⟨c2, s2⟩ := cs
      simp only [] at hd HLD HE hl2'
      go_wp2_with fail
      refine hc.mono ?_
      clear hc
      rintro e w3 ⟨rfl, hw3⟩
      have hw3 := hw3.symm
      subst hw3
      go_wp2_with fail
      refine hd.mono ?_
      clear hd
      rintro e w4 ⟨rfl, h4, hP4, hS4, hL4⟩
      have HX := hide (And.intro h4 (And.intro hP4 (And.intro hS4 (HBW.out.trans (hL4.below hb hws HBW.out.size)))))
      clear h4 hP4 hS4 hL4
      go_wp2_with fail
      go_roundg (ln s2)
      case measure => omega
      case rel => exact ⟨c2, s2, f', m + 1, Nat.le_refl _, by omega, HX.out.1, HX.out.2.1, HX.out.2.2.1, HLD.out, by omega, HX.out.2.2.2, HE.out⟩
    · rw [hx] at hc
      have HE := hide (show FF = (c, s') from by rw [HQ.out, HM.out, pLoop_stop _ _ _ hx])
      have HL := hide (show lensLe c 804 from ⟨Nat.le_trans HLM.out.1 (by omega), Nat.le_trans HLM.out.2.1 (by omega), Nat.le_trans HLM.out.2.2.1 (by omega), Nat.le_trans HLM.out.2.2.2.1 (by omega), Nat.le_trans HLM.out.2.2.2.2 (by omega)⟩)
      clear hx HM HQ HLM
      go_wp2_with fail
      refine hc.mono ?_
      clear hc
      rintro e w3 ⟨rfl, hw3⟩
      have hw3 := hw3.symm
      subst hw3
      have HC := hide (fun (W : World) (hW : Below wr.heap.size wr W) => doneP_any W b G s' (H3.out.below hW))
      go_wp2_with fail
      go_region_with (go_at_call 55; refine (HC.out _ ?_).mono ?_; (first | exact (Below.refl _ _).drew | exact Below.refl _ _); rintro e w4 ⟨rfl, rfl⟩)
      all_goals (
        go_wp2_with fail
        go_ret2
        rw [HE.out]
        exact ⟨_, rfl, by first | exact HS3.out.below (Below.refl _ _).drew | exact HS3.out, HL.out, by first | exact HBW.out.drew | exact HBW.out⟩)
end Go.Proofs.YtpggfgjongkihaaGreat
