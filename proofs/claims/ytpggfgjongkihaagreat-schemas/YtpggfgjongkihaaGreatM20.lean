/- The program's parser: startsDefinition, readRole. -/
import Derived.Test.YtpggfgjongkihaaGreatM19
import Derived.Deep.RegionLaw
import Derived.Deep.AppendLies
import Derived.Deep.DrawnRows
namespace Go.Proofs.YtpggfgjongkihaaGreat
open Go.RowKit
attribute [local go_sem ↓] Go.wp_at_zero Go.wp_at_succ
set_option maxHeartbeats 1000000 in
theorem starts_any (x : ByteArray) (w : World) : Calls Tryz.prog 129 #[.string x] w fun e w' => e = .returned (.bool (kindB x)) ∧ w' = w := by
  have HQ := hide (kindB_eq x)
  cases t1 : (x.toList == [114, 111, 108, 101])
  · cases t2 : (x.toList == [116, 121, 112, 101])
    · cases t3 : (x.toList == [105, 110, 116, 101, 114, 102, 97, 99, 101])
      · cases t4 : (x.toList == [117, 110, 105, 111, 110])
        · go_enter Tryz.func129, Tryz.ntmps129
          go_wp2
          go_ret
          exact ⟨ret_bool (by rw [HQ.out, t1, t2, t3, t4]; rfl), rfl⟩
        · go_enter Tryz.func129, Tryz.ntmps129
          go_wp2
          go_ret
          exact ⟨ret_bool (by rw [HQ.out, t1, t2, t3, t4]; rfl), rfl⟩
      · go_enter Tryz.func129, Tryz.ntmps129
        go_wp2
        go_ret
        exact ⟨ret_bool (by rw [HQ.out, t1, t2, t3]; rfl), rfl⟩
    · go_enter Tryz.func129, Tryz.ntmps129
      go_wp2
      go_ret
      exact ⟨ret_bool (by rw [HQ.out, t1, t2]; rfl), rfl⟩
  · go_enter Tryz.func129, Tryz.ntmps129
    go_wp2
    go_ret
    exact ⟨ret_bool (by rw [HQ.out, t1]; rfl), rfl⟩
def pIncF : Nat → St → List ByteArray × St
  | 0, s => ([], s)
  | f + 1, s => if okNext s = true then (nm s :: (pIncF f (nmT s)).1, (pIncF f (nmT s)).2) else ([], s)
theorem pIncF_stop (f : Nat) (s : St) (h : okNext s = false) : pIncF f s = ([], s) := by
  cases f with
  | zero => rfl
  | succ f => rw [pIncF, if_neg (by rw [h]; simp)]
def incEnd (r : List ByteArray × St) : St := if r.1.length = 0 then none else r.2
def pRole (s : St) : RRole × St :=
  if isK (nmT s) 9 = true then (⟨nm s, (pIncF 801 (tl (nmT s))).1⟩, incEnd (pIncF 801 (tl (nmT s)))) else (⟨nm s, []⟩, nmT s)
theorem Tryz.info9' : (Tryz.prog.info? 9).map (fun i => (i.zero, i.size, i.bytes)) = some (some (.string ⟨#[]⟩), 1, 16) := by kernel_rfl
set_option maxHeartbeats 4000000 in
set_option maxRecDepth 100000 in
theorem readRole_any (w : World) (p b S G : Nat) (s : St) (hP : PP w p b S) (h : PS w b G s) :
    Calls Tryz.prog 94 #[.pointer (some ⟨p, 0, none⟩)] w fun e w' => ∃ u, e = .returned (.agg #[.string (pRole s).1.name, u]) ∧ w'.ownsRow w.heap.size 9 1 u (pRole s).1.inc.length (strsV (pRole s).1.inc) ∧ (pRole s).1.inc.length ≤ 802 ∧ PS w' b G (pRole s).2 ∧ Keep b w w' := by
  obtain ⟨i0, hi, hz0, hz1, hz2⟩ := info_parts Tryz.info9'
  have hfld := run_field1
  have hnc := fun W (hP : PP W p b S) (h : PS W b G s) => readNamed_any W p b S G s hP h
  have HQ := hide (show pRole s = (if isK (nmT s) 9 = true then (⟨nm s, (pIncF 801 (tl (nmT s))).1⟩, incEnd (pIncF 801 (tl (nmT s)))) else (⟨nm s, []⟩, nmT s)) from rfl)
  generalize pRole s = FF at *
  generalize nm s = n at *
  generalize nmT s = s1 at *
  have hlt := h.lt
  have hgl := h.glt
  have hpl := hP.lt
  have H0 := hide h
  have HP0 := hide hP
  have HK0 := hide (Keep.refl b w)
  have c0 := hP.c0
  clear h hP
  have H1 := hide (H0.out.alloc (.cells #[.string ⟨#[]⟩, .slice none 0 0] 154))
  have HP1 := hide (HP0.out.alloc (.cells #[.string ⟨#[]⟩, .slice none 0 0] 154))
  have HK1 := hide (HK0.out.alloc (.cells #[.string ⟨#[]⟩, .slice none 0 0] 154))
  have HN1R := hide (show (w.alloc (.cells #[.string ⟨#[]⟩, .slice none 0 0] 154)).heap[w.heap.size]? = some (.cells #[.string ⟨#[]⟩, .slice none 0 0] 154 (0, 0)) from heap_alloc_new _ _)
  clear H0 HP0 HK0
  have c1 := HP1.out.c0
  have hc := hnc (w.alloc (.cells #[.string ⟨#[]⟩, .slice none 0 0] 154)) HP1.out H1.out
  clear hnc
  cases hx : isK s1 9
  · skip
    have ht1 := fun W (h : PS W b G s1) => take_any W b G s1 9 h
    rw [hx] at ht1
    rw [if_neg (by rw [hx]; simp)] at HQ
    clear hx
    go_enter Tryz.func94, Tryz.ntmps94
    go_wp2_with fail
    refine hc.mono ?_
    clear hc
    rintro e w2 ⟨rfl, h2, k2⟩
    have HP2 := hide (HP1.out.keep H1.out k2)
    have HK2 := hide (HK1.out.trans k2)
    have HN2R := hide (k2.at HN1R.out (by omega))
    have z2R := lt_of_block HN2R.out
    have H2 := hide (show PS w2 b G s1 from h2)
    have c2 := HP2.out.c0
    have zw2 := HK2.out.size
    have zp2 := HP2.out.lt
    have zb2 := H2.out.lt
    clear H1 HP1 HK1 HN1R h2 k2
    have H3 := hide (H2.out.alloc (.cells #[.string n, .slice none 0 0] 154))
    have HP3 := hide (HP2.out.alloc (.cells #[.string n, .slice none 0 0] 154))
    have HK3 := hide (HK2.out.alloc (.cells #[.string n, .slice none 0 0] 154))
    have HN3R := hide (show (w2.alloc (.cells #[.string n, .slice none 0 0] 154)).heap[w.heap.size]? = some (.cells #[.string ⟨#[]⟩, .slice none 0 0] 154 (0, 0)) from by rw [alloc_other _ _ _ (lt_of_block HN2R.out)]; exact HN2R.out)
    have HN3F := hide (show (w2.alloc (.cells #[.string n, .slice none 0 0] 154)).heap[w2.heap.size]? = some (.cells #[.string n, .slice none 0 0] 154 (0, 0)) from heap_alloc_new _ _)
    clear H2 HP2 HK2 HN2R
    have c3 := HP3.out.c0
    have ht := ht1 (w2.alloc (.cells #[.string n, .slice none 0 0] 154)) H3.out
    clear ht1
    go_wp2_with fail
    refine ht.mono ?_
    clear ht
    rintro e w4 ⟨rfl, h4, k4⟩
    have HP4 := hide (HP3.out.keep H3.out k4)
    have HK4 := hide (HK3.out.trans k4)
    have HN4R := hide (k4.at HN3R.out (by omega))
    have z4R := lt_of_block HN4R.out
    have HN4F := hide (k4.at HN3F.out (by omega))
    have z4F := lt_of_block HN4F.out
    have H4 := hide (show PS w4 b G s1 from h4)
    have c4 := HP4.out.c0
    have zw4 := HK4.out.size
    have zp4 := HP4.out.lt
    have zb4 := H4.out.lt
    clear H3 HP3 HK3 HN3R HN3F h4 k4
    have d5 : w4.cell? ⟨w2.heap.size, 0, none⟩ = some (.string n) := cell_of_block HN4F.out 0
    have d6 : w4.cell? ⟨w2.heap.size, 1, none⟩ = some (.slice none 0 0) := cell_of_block HN4F.out 1
    have d7 : w4.cell? ⟨w.heap.size, 0, none⟩ = some (.string ⟨#[]⟩) := cell_of_block HN4R.out 0
    have d8 : w4.cell? ⟨w.heap.size, 1, none⟩ = some (.slice none 0 0) := cell_of_block HN4R.out 1
    have f9 := frozen_of_block HN4R.out 0
    have f10 := frozen_of_block HN4R.out 1
    have H11 := hide (H4.out.set (F := w.heap.size) (by omega) (by omega) 0 (.string n))
    have HP11 := hide (HP4.out.set HN4R.out (by decide) 0 (.string n))
    have HK11 := hide (HK4.out.setNew ⟨w.heap.size, 0, none⟩ (by (try simp only []); omega) (.string n))
    have HN11R := hide (show (w4.setCell ⟨w.heap.size, 0, none⟩ (.string n)).heap[w.heap.size]? = some (.cells #[.string n, .slice none 0 0] 154 (0, 0)) from setCell_block HN4R.out 0 (.string n))
    have HN11F := hide (set_other_at HN4F.out (show w2.heap.size ≠ w.heap.size by omega) 0 (.string n))
    clear H4 HP4 HK4 HN4R HN4F
    have H12 := hide (H11.out.set (F := w.heap.size) (by omega) (by omega) 1 (.slice none 0 0))
    have HP12 := hide (HP11.out.set HN11R.out (by decide) 1 (.slice none 0 0))
    have HK12 := hide (HK11.out.setNew ⟨w.heap.size, 1, none⟩ (by (try simp only []); omega) (.slice none 0 0))
    have HN12R := hide (show ((w4.setCell ⟨w.heap.size, 0, none⟩ (.string n)).setCell ⟨w.heap.size, 1, none⟩ (.slice none 0 0)).heap[w.heap.size]? = some (.cells #[.string n, .slice none 0 0] 154 (0, 0)) from setCell_block HN11R.out 1 (.slice none 0 0))
    have HN12F := hide (set_other_at HN11F.out (show w2.heap.size ≠ w.heap.size by omega) 1 (.slice none 0 0))
    clear H11 HP11 HK11 HN11R HN11F
    go_wp2_with fail
    rw [HQ.out]
    exact bodyPost_ret (v := .agg #[.string n, .slice none 0 0]) (by simp [results, Tryz.results94, go_sem, *]) rfl ⟨_, rfl, World.ownsRow_nil _ _ _ _, by simp, H12.out, HK12.out⟩
  · skip
    have ht1 := fun W (h : PS W b G s1) => take_any W b G s1 9 h
    rw [hx] at ht1
    rw [if_pos hx] at HQ
    clear hx
    go_enter Tryz.func94, Tryz.ntmps94
    go_wp2_with fail
    refine hc.mono ?_
    clear hc
    rintro e w2 ⟨rfl, h2, k2⟩
    have HP2 := hide (HP1.out.keep H1.out k2)
    have HK2 := hide (HK1.out.trans k2)
    have HN2R := hide (k2.at HN1R.out (by omega))
    have z2R := lt_of_block HN2R.out
    have H2 := hide (show PS w2 b G s1 from h2)
    have c2 := HP2.out.c0
    have zw2 := HK2.out.size
    have zp2 := HP2.out.lt
    have zb2 := H2.out.lt
    clear H1 HP1 HK1 HN1R h2 k2
    have H3 := hide (H2.out.alloc (.cells #[.string n, .slice none 0 0] 154))
    have HP3 := hide (HP2.out.alloc (.cells #[.string n, .slice none 0 0] 154))
    have HK3 := hide (HK2.out.alloc (.cells #[.string n, .slice none 0 0] 154))
    have HN3R := hide (show (w2.alloc (.cells #[.string n, .slice none 0 0] 154)).heap[w.heap.size]? = some (.cells #[.string ⟨#[]⟩, .slice none 0 0] 154 (0, 0)) from by rw [alloc_other _ _ _ (lt_of_block HN2R.out)]; exact HN2R.out)
    have HN3F := hide (show (w2.alloc (.cells #[.string n, .slice none 0 0] 154)).heap[w2.heap.size]? = some (.cells #[.string n, .slice none 0 0] 154 (0, 0)) from heap_alloc_new _ _)
    clear H2 HP2 HK2 HN2R
    have c3 := HP3.out.c0
    have ht := ht1 (w2.alloc (.cells #[.string n, .slice none 0 0] 154)) H3.out
    clear ht1
    go_wp2_with fail
    refine ht.mono ?_
    clear ht
    rintro e w4 ⟨rfl, h4, k4⟩
    have HP4 := hide (HP3.out.keep H3.out k4)
    have HK4 := hide (HK3.out.trans k4)
    have HN4R := hide (k4.at HN3R.out (by omega))
    have z4R := lt_of_block HN4R.out
    have HN4F := hide (k4.at HN3F.out (by omega))
    have z4F := lt_of_block HN4F.out
    have H4 := hide (show PS w4 b G (tl s1) from h4)
    have c4 := HP4.out.c0
    have zw4 := HK4.out.size
    have zp4 := HP4.out.lt
    have zb4 := H4.out.lt
    clear H3 HP3 HK3 HN3R HN3F h4 k4
    go_wp2_with fail
    have h0 := H4.out
    have hP0 := HP4.out
    have hR0 := HN4R.out
    have hF0 := HN4F.out
    have hK0 := HK4.out
    have hl0 := h0.len
    clear H4 HP4 HN4R HN4F HK4
    generalize tl s1 = s0 at *
    generalize w4 = wl at *
    go_loopg [] (ln s0) (fun k wr => ∃ (inc : List ByteArray) (vI : Value) (s' : St) (f : Nat), ln s' ≤ k ∧ ln s' ≤ f ∧ PS wr b G s' ∧ PP wr p b S ∧ wr.heap[w2.heap.size]? = some (.cells #[.string n, vI] 154 (0, 0)) ∧ wr.heap[w.heap.size]? = some (.cells #[.string ⟨#[]⟩, .slice none 0 0] 154 (0, 0)) ∧ wr.ownsRow w.heap.size 9 1 vI inc.length (strsV inc) ∧ inc.length + ln s' ≤ 802 ∧ Keep b w wr ∧ pIncF 801 s0 = (inc ++ (pIncF f s').1, (pIncF f s').2))
    case atStart => exact ⟨[], _, s0, 801, Nat.le_refl _, hl0, h0, hP0, hF0, hR0, World.ownsRow_nil _ _ _ _, by simp; omega, hK0, by simp⟩
    case round =>
      clear h0 hP0 hF0 hR0 hK0 hl0
      obtain ⟨inc, vI, s', f, hlk, hlf, h1, hP1, hF1, hR1, hO1, hin, hK1, hrel⟩ := hrel
      obtain ⟨aI, cI, rfl⟩ := own_slice hO1
      have HM := hide hrel
      have H1 := hide h1
      have HP1 := hide hP1
      have HF1 := hide hF1
      have HR1 := hide hR1
      have HO1 := hide hO1
      have HK1 := hide hK1
      have c1 := hP1.c0
      have zF1 := lt_of_block hF1
      have zR1 := lt_of_block hR1
      have zp1 := hP1.lt
      have hc := sees_any wr b G s' 1 h1
      clear h1 hP1 hF1 hR1 hO1 hK1 hrel

      cases hx : isK s' 1
      · rw [hx] at hc
        have HE := hide (show FF = (⟨n, inc⟩, incEnd (inc, s')) from by rw [HQ.out, HM.out, pIncF_stop f s' (by unfold okNext; rw [hx]; rfl)]; simp)
        clear hx HM HQ
        go_wp2_with fail
        refine hc.mono ?_
        clear hc
        rintro e wA ⟨rfl, kA⟩
        have H2 := hide (H1.out.below kA)
        have HP2 := hide (HP1.out.below kA)
        have HF2 := hide ((kA.block _ zF1).trans HF1.out)
        have HR2 := hide ((kA.block _ zR1).trans HR1.out)
        have HO2 := hide (ownsRow_below HO1.out kA)
        have HK2 := hide (HK1.out.trans (Keep.of_below kA))
        have c2 := HP2.out.c0
        have zF2 := lt_of_block HF2.out
        have zR2 := lt_of_block HR2.out
        have zp2 := HP2.out.lt
        clear H1 HP1 HF1 HR1 HO1 HK1 kA
        by_cases hem : inc.length = 0
        · skip
          have d101 : wA.cell? ⟨w2.heap.size, 1, none⟩ = some (.slice aI inc.length cI) := cell_of_block HF2.out 1
          have tz : ((inc.length : Int) == 0) = true := by rw [beq_iff_eq]; omega
          have HG := hide (show FF = (⟨n, inc⟩, none) from by rw [HE.out, incEnd, if_pos hem])
          clear hem
          have hx := fail_any wA b G s' H2.out
          go_wp2_with fail
          refine hx.mono ?_
          clear hx
          rintro e w102 ⟨rfl, h102, k102⟩
          have HP102 := hide (HP2.out.keep H2.out k102)
          have HK102 := hide (HK2.out.trans k102)
          have HN102F := hide (k102.at HF2.out (by omega))
          have z102F := lt_of_block HN102F.out
          have HN102R := hide (k102.at HR2.out (by omega))
          have z102R := lt_of_block HN102R.out
          have HOq102 := hide (ownsRow_stay HO2.out (H2.out.stay k102))
          have H102 := hide (show PS w102 b G none from h102)
          have c102 := HP102.out.c0
          have zw102 := HK102.out.size
          have zp102 := HP102.out.lt
          have zb102 := H102.out.lt
          clear H2 HP2 HK2 HF2 HR2 HO2 h102 k102
          have d103 : w102.cell? ⟨w2.heap.size, 0, none⟩ = some (.string n) := cell_of_block HN102F.out 0
          have d104 : w102.cell? ⟨w2.heap.size, 1, none⟩ = some (.slice aI inc.length cI) := cell_of_block HN102F.out 1
          have d105 : w102.cell? ⟨w.heap.size, 0, none⟩ = some (.string ⟨#[]⟩) := cell_of_block HN102R.out 0
          have d106 : w102.cell? ⟨w.heap.size, 1, none⟩ = some (.slice none 0 0) := cell_of_block HN102R.out 1
          have f107 := frozen_of_block HN102R.out 0
          have f108 := frozen_of_block HN102R.out 1
          have H109 := hide (H102.out.set (F := w.heap.size) (by omega) (by omega) 0 (.string n))
          have HP109 := hide (HP102.out.set HN102R.out (by decide) 0 (.string n))
          have HK109 := hide (HK102.out.setNew ⟨w.heap.size, 0, none⟩ (by (try simp only []); omega) (.string n))
          have HN109F := hide (set_other_at HN102F.out (show w2.heap.size ≠ w.heap.size by omega) 0 (.string n))
          have HN109R := hide (show (w102.setCell ⟨w.heap.size, 0, none⟩ (.string n)).heap[w.heap.size]? = some (.cells #[.string n, .slice none 0 0] 154 (0, 0)) from setCell_block HN102R.out 0 (.string n))
          have HOq109 := hide (ownsRow_stay HOq102.out (Stay.setT HN102R.out (by decide) 0 (.string n)))
          clear H102 HP102 HK102 HN102F HN102R HOq102
          have H110 := hide (H109.out.set (F := w.heap.size) (by omega) (by omega) 1 (.slice aI inc.length cI))
          have HP110 := hide (HP109.out.set HN109R.out (by decide) 1 (.slice aI inc.length cI))
          have HK110 := hide (HK109.out.setNew ⟨w.heap.size, 1, none⟩ (by (try simp only []); omega) (.slice aI inc.length cI))
          have HN110F := hide (set_other_at HN109F.out (show w2.heap.size ≠ w.heap.size by omega) 1 (.slice aI inc.length cI))
          have HN110R := hide (show ((w102.setCell ⟨w.heap.size, 0, none⟩ (.string n)).setCell ⟨w.heap.size, 1, none⟩ (.slice aI inc.length cI)).heap[w.heap.size]? = some (.cells #[.string n, .slice aI inc.length cI] 154 (0, 0)) from setCell_block HN109R.out 1 (.slice aI inc.length cI))
          have HOq110 := hide (ownsRow_stay HOq109.out (Stay.setT HN109R.out (by decide) 1 (.slice aI inc.length cI)))
          clear H109 HP109 HK109 HN109F HN109R HOq109
          go_wp2_with fail
          rw [HG.out]
          exact bodyPost_ret (v := .agg #[.string n, .slice aI inc.length cI]) (by simp [results, Tryz.results94, go_sem, *]) rfl ⟨_, rfl, HOq110.out, by simp only []; omega, H110.out, HK110.out⟩
        · skip
          have d101 : wA.cell? ⟨w2.heap.size, 1, none⟩ = some (.slice aI inc.length cI) := cell_of_block HF2.out 1
          have tz : ((inc.length : Int) == 0) = false := by rw [Bool.eq_false_iff]; intro hz; rw [beq_iff_eq] at hz; omega
          have HG := hide (show FF = (⟨n, inc⟩, s') from by rw [HE.out, incEnd, if_neg hem])
          clear hem
          have d102 : wA.cell? ⟨w2.heap.size, 0, none⟩ = some (.string n) := cell_of_block HF2.out 0
          have d103 : wA.cell? ⟨w2.heap.size, 1, none⟩ = some (.slice aI inc.length cI) := cell_of_block HF2.out 1
          have d104 : wA.cell? ⟨w.heap.size, 0, none⟩ = some (.string ⟨#[]⟩) := cell_of_block HR2.out 0
          have d105 : wA.cell? ⟨w.heap.size, 1, none⟩ = some (.slice none 0 0) := cell_of_block HR2.out 1
          have f106 := frozen_of_block HR2.out 0
          have f107 := frozen_of_block HR2.out 1
          have H108 := hide (H2.out.set (F := w.heap.size) (by omega) (by omega) 0 (.string n))
          have HP108 := hide (HP2.out.set HR2.out (by decide) 0 (.string n))
          have HK108 := hide (HK2.out.setNew ⟨w.heap.size, 0, none⟩ (by (try simp only []); omega) (.string n))
          have HN108F := hide (set_other_at HF2.out (show w2.heap.size ≠ w.heap.size by omega) 0 (.string n))
          have HN108R := hide (show (wA.setCell ⟨w.heap.size, 0, none⟩ (.string n)).heap[w.heap.size]? = some (.cells #[.string n, .slice none 0 0] 154 (0, 0)) from setCell_block HR2.out 0 (.string n))
          have HOq108 := hide (ownsRow_stay HO2.out (Stay.setT HR2.out (by decide) 0 (.string n)))
          clear H2 HP2 HK2 HF2 HR2 HO2
          have H109 := hide (H108.out.set (F := w.heap.size) (by omega) (by omega) 1 (.slice aI inc.length cI))
          have HP109 := hide (HP108.out.set HN108R.out (by decide) 1 (.slice aI inc.length cI))
          have HK109 := hide (HK108.out.setNew ⟨w.heap.size, 1, none⟩ (by (try simp only []); omega) (.slice aI inc.length cI))
          have HN109F := hide (set_other_at HN108F.out (show w2.heap.size ≠ w.heap.size by omega) 1 (.slice aI inc.length cI))
          have HN109R := hide (show ((wA.setCell ⟨w.heap.size, 0, none⟩ (.string n)).setCell ⟨w.heap.size, 1, none⟩ (.slice aI inc.length cI)).heap[w.heap.size]? = some (.cells #[.string n, .slice aI inc.length cI] 154 (0, 0)) from setCell_block HN108R.out 1 (.slice aI inc.length cI))
          have HOq109 := hide (ownsRow_stay HOq108.out (Stay.setT HN108R.out (by decide) 1 (.slice aI inc.length cI)))
          clear H108 HP108 HK108 HN108F HN108R HOq108
          go_wp2_with fail
          rw [HG.out]
          exact bodyPost_ret (v := .agg #[.string n, .slice aI inc.length cI]) (by simp [results, Tryz.results94, go_sem, *]) rfl ⟨_, rfl, HOq109.out, by simp only []; omega, H109.out, HK109.out⟩
      · rw [hx] at hc
        have hpk := fun W (h : PS W b G s') => peekP_any W b G s' h
        have hst := fun W => starts_any (hd s').s W
        have hne := fun W (h : PS W b G s') => needName_any W b G s' h
        have HOK := hide (show okNext s' = !kindB (hd s').s from by unfold okNext; rw [hx]; rfl)
        have hlt1 := ln_nmT1 s' hx
        generalize (hd s').k = kk at *
        generalize (hd s').s = yy at *
        generalize (hd s').n = nn at *
        cases hkb : kindB yy
        · rw [hkb] at hst HOK
          obtain ⟨f', rfl⟩ : ∃ f', f = f' + 1 := ⟨f - 1, by omega⟩
          have HE := hide (show pIncF 801 s0 = (inc ++ (nm s' :: (pIncF f' (nmT s')).1), (pIncF f' (nmT s')).2) from by rw [HM.out, pIncF, if_pos (by rw [HOK.out]; rfl)])
          clear hx HM hkb HOK
          generalize nm s' = m at *
          generalize nmT s' = s2 at *
          go_wp2_with fail
          refine hc.mono ?_
          clear hc
          rintro e wA ⟨rfl, kA⟩
          have H2 := hide (H1.out.below kA)
          have HP2 := hide (HP1.out.below kA)
          have HF2 := hide ((kA.block _ zF1).trans HF1.out)
          have HR2 := hide ((kA.block _ zR1).trans HR1.out)
          have HO2 := hide (ownsRow_below HO1.out kA)
          have HK2 := hide (HK1.out.trans (Keep.of_below kA))
          have c2 := HP2.out.c0
          have zF2 := lt_of_block HF2.out
          have zR2 := lt_of_block HR2.out
          have zp2 := HP2.out.lt
          clear H1 HP1 HF1 HR1 HO1 HK1 kA
          have hp := hpk wA H2.out
          clear hpk
          go_wp2_with fail
          refine hp.mono ?_
          clear hp
          rintro e wB ⟨rfl, kB⟩
          have H3 := hide (H2.out.below kB)
          have HP3 := hide (HP2.out.below kB)
          have HF3 := hide ((kB.block _ zF2).trans HF2.out)
          have HR3 := hide ((kB.block _ zR2).trans HR2.out)
          have HO3 := hide (ownsRow_below HO2.out kB)
          have HK3 := hide (HK2.out.trans (Keep.of_below kB))
          have c3 := HP3.out.c0
          have zF3 := lt_of_block HF3.out
          have zR3 := lt_of_block HR3.out
          have zp3 := HP3.out.lt
          clear H2 HP2 HF2 HR2 HO2 HK2 kB
          go_wp2_with fail
          refine (hst wB).mono ?_
          clear hst
          rintro e wC ⟨rfl, hwC⟩
          have hwC := hwC.symm
          subst hwC
          have d3 : wB.cell? ⟨w2.heap.size, 1, none⟩ = some (.slice aI inc.length cI) := cell_of_block HF3.out 1
          have hcall : ∀ W, Below wB.heap.size wB W → Calls Tryz.prog 93 #[.pointer (some ⟨b, 0, none⟩)] W fun e w' => e = .returned (.string m) ∧ PS w' b G s2 ∧ Keep b wB w' ∧ w'.cell? ⟨p, 0, none⟩ = some (.pointer (some ⟨b, 0, none⟩)) ∧ w'.cell? ⟨w2.heap.size, 1, none⟩ = some (.slice aI inc.length cI) ∧ w'.ownsRow w.heap.size 9 1 (.slice aI inc.length cI) inc.length (strsV inc) ∧ w'.frozen? ⟨w2.heap.size, 1, none⟩ = false ∧ wB.heap.size ≤ w'.heap.size := fun W hW => (hne W (H3.out.below hW)).mono (by
            rintro e w' ⟨a1, a2, a3⟩
            have a4 := (Keep.of_below (b := b) hW).trans a3
            exact ⟨a1, a2, a4, (HP3.out.keep H3.out a4).c0, cell_of_block (a4.at HF3.out (by omega)) 1, ownsRow_stay HO3.out (H3.out.stay a4), frozen_of_block (a4.at HF3.out (by omega)) 1, a4.size⟩)
          have fz3 := frozen_of_block HF3.out 1
          have zz3 := HK3.out.size
          have HC := hide hcall
          have hrb := (fun k hk => (HO3.out.lt k hk).1)
          have hlo : Option.some (w2.heap.size) ≠ (Value.slice aI inc.length cI).ownBlock := fun e => by
            rcases HO3.out.2 with ⟨y, _⟩ | ⟨g, cap, cur, hv, hg, hh, r⟩
            · rw [y] at e; cases e
            · rw [hv] at e
              have e3 := Option.some.inj (show some (w2.heap.size) = some g from e)
              rw [← e3, HF3.out] at hh; cases hh
          have hrd : ∀ k, (Value.slice aI inc.length cI).ownBlock = some k → w.heap.size ≤ k := fun k hk => (HO3.out.lt k hk).1
          have hlor : Option.some w.heap.size ≠ (Value.slice aI inc.length cI).ownBlock := fun e => by
            rcases HO3.out.2 with ⟨y, _⟩ | ⟨g, cap, cur, hv, hg, hh, r⟩
            · rw [y] at e; cases e
            · rw [hv] at e
              have e3 := Option.some.inj (show some (w.heap.size) = some g from e)
              rw [← e3, HR3.out] at hh; cases hh
          have hpF : p ≠ w2.heap.size := by omega
          have hpF' : ¬ w2.heap.size = p := by omega
          have hlop : Option.some p ≠ (Value.slice aI inc.length cI).ownBlock := fun e => by have := hrd p e.symm; omega
          clear hcall
          go_wp2_with fail
          go_region_law (first
              | (refine step_append_lies _ (by rfl) _ _ _ (by rfl) w.heap.size 9 i0 _ 1 16 Tryz.underlying50 hi hz0 hz1 hz2 rfl (by decide) _ _ _ (by rfl) (hO4.alloc _) ⟨w4.heap.size, 0, none⟩ 1 1 [.string m] (by rfl) (by rfl) (cell_one_new _ _ _) (fun u hu => by simp at hu; subst hu; rfl) (by decide) (by unfold maxLen; omega) (by omega) (by simp; omega) (w4.heap.size + 1) (by simp) ?_; intro g cap w5 hown5 hgrow hat hg5; have e5 : w5.cell? ⟨w2.heap.size, 1, none⟩ = some (.slice aI inc.length cI) := (hgrow.cell_far ⟨w2.heap.size, 1, none⟩ (by simp; omega) hlo).trans (by first | exact (((Below.refl w4.heap.size w4).alloc (Nat.le_refl _) _).cell (show w2.heap.size < w4.heap.size by omega)).trans d4 | exact ((((Below.refl w4.heap.size w4).alloc (Nat.le_refl _) _).drew).cell (show w2.heap.size < w4.heap.size by omega)).trans d4); have cp5 : w5.cell? ⟨p, 0, none⟩ = some (.pointer (some ⟨b, 0, none⟩)) := (hgrow.cell_far ⟨p, 0, none⟩ (by simp; omega) hlop).trans (by first | exact (((Below.refl w4.heap.size w4).alloc (Nat.le_refl _) _).cell (show p < w4.heap.size by omega)).trans c4 | exact ((((Below.refl w4.heap.size w4).alloc (Nat.le_refl _) _).drew).cell (show p < w4.heap.size by omega)).trans c4); have f5 : w5.frozen? ⟨w2.heap.size, 1, none⟩ = false := (hgrow.frozen_far ⟨w2.heap.size, 1, none⟩ (by simp; omega) hlo).trans (by first | exact (((Below.refl w4.heap.size w4).alloc (Nat.le_refl _) _).frozen (show w2.heap.size < w4.heap.size by omega)).trans f4 | exact ((((Below.refl w4.heap.size w4).alloc (Nat.le_refl _) _).drew).frozen (show w2.heap.size < w4.heap.size by omega)).trans f4))
              | (go_simp; go_at_call 93; refine (HC.out _ ?_).mono ?_; (first | exact (Below.refl _ _).drew | exact Below.refl _ _); rintro e w4 ⟨rfl, h4, k4, c4, d4, hO4, f4, z4⟩; have n4 : w4.heap.size ≠ w2.heap.size := (by omega); have n4' : w2.heap.size < w4.heap.size := (by omega); have n4p : p < w4.heap.size := (by omega)))
          all_goals (
            have hF4 := (k4.at HF3.out (by omega))
            have hR4 := (k4.at HR3.out (by omega))
            have hP4 := HP3.out.keep H3.out k4
            have hK4 := HK3.out.trans k4
            have gF : w5.heap[w2.heap.size]? = some (.cells #[.string n, .slice aI inc.length cI] 154 (0, 0)) := (hgrow.block _ (by simp; omega) hlo).trans ((alloc_other _ _ _ (lt_of_block hF4)).trans hF4)
            have gR : w5.heap[w.heap.size]? = some (.cells #[.string ⟨#[]⟩, .slice none 0 0] 154 (0, 0)) := (hgrow.block _ (by simp; omega) hlor).trans ((alloc_other _ _ _ (lt_of_block hR4)).trans hR4)
            have gS := ((h4.alloc _).grown hgrow hrd hlt hgl).set (F := w2.heap.size) (by omega) (by omega) 1 (Value.slice (some ⟨g, 0, none⟩) (inc.length + 1) cap)
            have gP := ((hP4.alloc _).grown hgrow hrd hpl).set gF (by decide) 1 (Value.slice (some ⟨g, 0, none⟩) (inc.length + 1) cap)
            have gK := ((hK4.alloc _).grown hgrow hrd).setNew ⟨w2.heap.size, 1, none⟩ (by simp only []; omega) (Value.slice (some ⟨g, 0, none⟩) (inc.length + 1) cap)
            have gO := ownsRow_stay hown5 (Stay.setT (T := 9) (B := w.heap.size) gF (by decide) 1 (Value.slice (some ⟨g, 0, none⟩) (inc.length + 1) cap))
            have HX := hide (show PS _ b G s2 ∧ PP _ p b S ∧ _ ∧ _ ∧ _ ∧ _ from ⟨gS, gP, setCell_block gF 1 (Value.slice (some ⟨g, 0, none⟩) (inc.length + 1) cap), set_other_at gR (show w.heap.size ≠ w2.heap.size by omega) 1 (Value.slice (some ⟨g, 0, none⟩) (inc.length + 1) cap), gO, gK⟩)
            clear gF gR gS gP gK gO hF4 hR4 hP4 hK4 hgrow hown5 h4 k4 hO4
            go_wp2_with fail
            go_roundg (ln s2)
            case measure => omega
            case rel => exact ⟨inc ++ [m], _, s2, f', Nat.le_refl _, by omega, HX.out.1, HX.out.2.1, HX.out.2.2.1, HX.out.2.2.2.1, by rw [strsV_snoc, List.length_append]; exact HX.out.2.2.2.2.1, by simp; omega, HX.out.2.2.2.2.2, by rw [HE.out]; simp⟩)
        · rw [hkb] at hst HOK
          have HE := hide (show FF = (⟨n, inc⟩, incEnd (inc, s')) from by rw [HQ.out, HM.out, pIncF_stop f s' HOK.out]; simp)
          clear hx HM HQ hkb hne HOK
          go_wp2_with fail
          refine hc.mono ?_
          clear hc
          rintro e wA ⟨rfl, kA⟩
          have H2 := hide (H1.out.below kA)
          have HP2 := hide (HP1.out.below kA)
          have HF2 := hide ((kA.block _ zF1).trans HF1.out)
          have HR2 := hide ((kA.block _ zR1).trans HR1.out)
          have HO2 := hide (ownsRow_below HO1.out kA)
          have HK2 := hide (HK1.out.trans (Keep.of_below kA))
          have c2 := HP2.out.c0
          have zF2 := lt_of_block HF2.out
          have zR2 := lt_of_block HR2.out
          have zp2 := HP2.out.lt
          clear H1 HP1 HF1 HR1 HO1 HK1 kA
          have hp := hpk wA H2.out
          clear hpk
          go_wp2_with fail
          refine hp.mono ?_
          clear hp
          rintro e wB ⟨rfl, kB⟩
          have H3 := hide (H2.out.below kB)
          have HP3 := hide (HP2.out.below kB)
          have HF3 := hide ((kB.block _ zF2).trans HF2.out)
          have HR3 := hide ((kB.block _ zR2).trans HR2.out)
          have HO3 := hide (ownsRow_below HO2.out kB)
          have HK3 := hide (HK2.out.trans (Keep.of_below kB))
          have c3 := HP3.out.c0
          have zF3 := lt_of_block HF3.out
          have zR3 := lt_of_block HR3.out
          have zp3 := HP3.out.lt
          clear H2 HP2 HF2 HR2 HO2 HK2 kB
          go_wp2_with fail
          refine (hst wB).mono ?_
          clear hst
          rintro e wC ⟨rfl, hwC⟩
          have hwC := hwC.symm
          subst hwC
          by_cases hem : inc.length = 0
          · skip
            have d101 : wB.cell? ⟨w2.heap.size, 1, none⟩ = some (.slice aI inc.length cI) := cell_of_block HF3.out 1
            have tz : ((inc.length : Int) == 0) = true := by rw [beq_iff_eq]; omega
            have HG := hide (show FF = (⟨n, inc⟩, none) from by rw [HE.out, incEnd, if_pos hem])
            clear hem
            have hx := fail_any wB b G s' H3.out
            go_wp2_with fail
            refine hx.mono ?_
            clear hx
            rintro e w102 ⟨rfl, h102, k102⟩
            have HP102 := hide (HP3.out.keep H3.out k102)
            have HK102 := hide (HK3.out.trans k102)
            have HN102F := hide (k102.at HF3.out (by omega))
            have z102F := lt_of_block HN102F.out
            have HN102R := hide (k102.at HR3.out (by omega))
            have z102R := lt_of_block HN102R.out
            have HOq102 := hide (ownsRow_stay HO3.out (H3.out.stay k102))
            have H102 := hide (show PS w102 b G none from h102)
            have c102 := HP102.out.c0
            have zw102 := HK102.out.size
            have zp102 := HP102.out.lt
            have zb102 := H102.out.lt
            clear H3 HP3 HK3 HF3 HR3 HO3 h102 k102
            have d103 : w102.cell? ⟨w2.heap.size, 0, none⟩ = some (.string n) := cell_of_block HN102F.out 0
            have d104 : w102.cell? ⟨w2.heap.size, 1, none⟩ = some (.slice aI inc.length cI) := cell_of_block HN102F.out 1
            have d105 : w102.cell? ⟨w.heap.size, 0, none⟩ = some (.string ⟨#[]⟩) := cell_of_block HN102R.out 0
            have d106 : w102.cell? ⟨w.heap.size, 1, none⟩ = some (.slice none 0 0) := cell_of_block HN102R.out 1
            have f107 := frozen_of_block HN102R.out 0
            have f108 := frozen_of_block HN102R.out 1
            have H109 := hide (H102.out.set (F := w.heap.size) (by omega) (by omega) 0 (.string n))
            have HP109 := hide (HP102.out.set HN102R.out (by decide) 0 (.string n))
            have HK109 := hide (HK102.out.setNew ⟨w.heap.size, 0, none⟩ (by (try simp only []); omega) (.string n))
            have HN109F := hide (set_other_at HN102F.out (show w2.heap.size ≠ w.heap.size by omega) 0 (.string n))
            have HN109R := hide (show (w102.setCell ⟨w.heap.size, 0, none⟩ (.string n)).heap[w.heap.size]? = some (.cells #[.string n, .slice none 0 0] 154 (0, 0)) from setCell_block HN102R.out 0 (.string n))
            have HOq109 := hide (ownsRow_stay HOq102.out (Stay.setT HN102R.out (by decide) 0 (.string n)))
            clear H102 HP102 HK102 HN102F HN102R HOq102
            have H110 := hide (H109.out.set (F := w.heap.size) (by omega) (by omega) 1 (.slice aI inc.length cI))
            have HP110 := hide (HP109.out.set HN109R.out (by decide) 1 (.slice aI inc.length cI))
            have HK110 := hide (HK109.out.setNew ⟨w.heap.size, 1, none⟩ (by (try simp only []); omega) (.slice aI inc.length cI))
            have HN110F := hide (set_other_at HN109F.out (show w2.heap.size ≠ w.heap.size by omega) 1 (.slice aI inc.length cI))
            have HN110R := hide (show ((w102.setCell ⟨w.heap.size, 0, none⟩ (.string n)).setCell ⟨w.heap.size, 1, none⟩ (.slice aI inc.length cI)).heap[w.heap.size]? = some (.cells #[.string n, .slice aI inc.length cI] 154 (0, 0)) from setCell_block HN109R.out 1 (.slice aI inc.length cI))
            have HOq110 := hide (ownsRow_stay HOq109.out (Stay.setT HN109R.out (by decide) 1 (.slice aI inc.length cI)))
            clear H109 HP109 HK109 HN109F HN109R HOq109
            go_wp2_with fail
            rw [HG.out]
            exact bodyPost_ret (v := .agg #[.string n, .slice aI inc.length cI]) (by simp [results, Tryz.results94, go_sem, *]) rfl ⟨_, rfl, HOq110.out, by simp only []; omega, H110.out, HK110.out⟩
          · skip
            have d101 : wB.cell? ⟨w2.heap.size, 1, none⟩ = some (.slice aI inc.length cI) := cell_of_block HF3.out 1
            have tz : ((inc.length : Int) == 0) = false := by rw [Bool.eq_false_iff]; intro hz; rw [beq_iff_eq] at hz; omega
            have HG := hide (show FF = (⟨n, inc⟩, s') from by rw [HE.out, incEnd, if_neg hem])
            clear hem
            have d102 : wB.cell? ⟨w2.heap.size, 0, none⟩ = some (.string n) := cell_of_block HF3.out 0
            have d103 : wB.cell? ⟨w2.heap.size, 1, none⟩ = some (.slice aI inc.length cI) := cell_of_block HF3.out 1
            have d104 : wB.cell? ⟨w.heap.size, 0, none⟩ = some (.string ⟨#[]⟩) := cell_of_block HR3.out 0
            have d105 : wB.cell? ⟨w.heap.size, 1, none⟩ = some (.slice none 0 0) := cell_of_block HR3.out 1
            have f106 := frozen_of_block HR3.out 0
            have f107 := frozen_of_block HR3.out 1
            have H108 := hide (H3.out.set (F := w.heap.size) (by omega) (by omega) 0 (.string n))
            have HP108 := hide (HP3.out.set HR3.out (by decide) 0 (.string n))
            have HK108 := hide (HK3.out.setNew ⟨w.heap.size, 0, none⟩ (by (try simp only []); omega) (.string n))
            have HN108F := hide (set_other_at HF3.out (show w2.heap.size ≠ w.heap.size by omega) 0 (.string n))
            have HN108R := hide (show (wB.setCell ⟨w.heap.size, 0, none⟩ (.string n)).heap[w.heap.size]? = some (.cells #[.string n, .slice none 0 0] 154 (0, 0)) from setCell_block HR3.out 0 (.string n))
            have HOq108 := hide (ownsRow_stay HO3.out (Stay.setT HR3.out (by decide) 0 (.string n)))
            clear H3 HP3 HK3 HF3 HR3 HO3
            have H109 := hide (H108.out.set (F := w.heap.size) (by omega) (by omega) 1 (.slice aI inc.length cI))
            have HP109 := hide (HP108.out.set HN108R.out (by decide) 1 (.slice aI inc.length cI))
            have HK109 := hide (HK108.out.setNew ⟨w.heap.size, 1, none⟩ (by (try simp only []); omega) (.slice aI inc.length cI))
            have HN109F := hide (set_other_at HN108F.out (show w2.heap.size ≠ w.heap.size by omega) 1 (.slice aI inc.length cI))
            have HN109R := hide (show ((wB.setCell ⟨w.heap.size, 0, none⟩ (.string n)).setCell ⟨w.heap.size, 1, none⟩ (.slice aI inc.length cI)).heap[w.heap.size]? = some (.cells #[.string n, .slice aI inc.length cI] 154 (0, 0)) from setCell_block HN108R.out 1 (.slice aI inc.length cI))
            have HOq109 := hide (ownsRow_stay HOq108.out (Stay.setT HN108R.out (by decide) 1 (.slice aI inc.length cI)))
            clear H108 HP108 HK108 HN108F HN108R HOq108
            go_wp2_with fail
            rw [HG.out]
            exact bodyPost_ret (v := .agg #[.string n, .slice aI inc.length cI]) (by simp [results, Tryz.results94, go_sem, *]) rfl ⟨_, rfl, HOq109.out, by simp only []; omega, H109.out, HK109.out⟩
end Go.Proofs.YtpggfgjongkihaaGreat
