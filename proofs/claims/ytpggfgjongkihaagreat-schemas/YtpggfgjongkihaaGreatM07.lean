/- The reference's reader: fields. The reference's reader: lists of fields. The reference's reader: literals. The reference's reader: rules. The reference's reader: ruled, kind, done. The reference's reader: role. The reference's reader: union. -/
import Derived.Test.YtpggfgjongkihaaGreatM06
import Derived.Deep.DeepCutAuto
namespace Go.Proofs.YtpggfgjongkihaaGreat
open Go.RowKit
theorem rMarks_fuel : ∀ (f : Nat) (s : St) (a h : ByteArray), ln s ≤ f → rMarks f s a h = rMarks (ln s) s a h := by
  intro f
  induction f using Nat.strongRecOn with
  | _ f ih =>
    intro s a h hl
    match f, s, hl with
    | f, none, hl =>
      match f with
      | 0 => rfl
      | f + 1 => simp only [rMarks, isK_none 11 (by decide), ln]; rfl
    | 0, some l, hl => simp [ln] at hl
    | f + 1, some l, hl =>
      show rMarks (f + 1) (some l) a h = rMarks (l.length + 1) (some l) a h
      have hl' : l.length ≤ f := by simpa [ln] using hl
      simp only [rMarks]
      by_cases h11 : isK (some l) 11 = true
      · rw [if_pos h11, if_pos h11]
        have h0 := ln_tl_lt (some l) 11 (by decide) h11
        have key : ∀ q x y, ln q ≤ l.length → rMarks f q x y = rMarks l.length q x y := fun q x y hq => by
          rw [ih f (by omega) q x y (by omega)]
          by_cases e : l.length = f
          · rw [e, ih f (by omega) q x y (by omega)]
          · rw [ih l.length (by omega) q x y hq]
        have b1 := ln_mustT (nmT (mustT (nmT (tl (some l))) (isK (nmT (tl (some l))) 7))) (isK (nmT (mustT (nmT (tl (some l))) (isK (nmT (tl (some l))) 7))) 8)
        have b2 := ln_nmT (mustT (nmT (tl (some l))) (isK (nmT (tl (some l))) 7))
        have b3 := ln_mustT (nmT (tl (some l))) (isK (nmT (tl (some l))) 7)
        have b4 := ln_nmT (tl (some l))
        have b5 : ln (some l) = l.length + 1 := rfl
        rw [key _ _ _ (by omega), key _ _ _ (by omega)]
      · rw [if_neg h11, if_neg h11]
theorem rMarks_no (s : St) (a h : ByteArray) (h11 : isK s 11 = false) : rMarks (ln s) s a h = ((a, h), s) := by
  match s with
  | none => rfl
  | some l => show rMarks (l.length + 1) (some l) a h = _; simp only [rMarks, h11]; rfl
theorem rMarks_yes (s : St) (a h : ByteArray) (h11 : isK s 11 = true) : ∃ s1 s2 s3 s4 s5, s1 = tl s ∧ s2 = nmT s1 ∧ s3 = mustT s2 (isK s2 7) ∧ s4 = nmT s3 ∧ s5 = mustT s4 (isK s4 8) ∧ ln s5 < ln s ∧
    rMarks (ln s) s a h = (if nm s1 = bAuth ∧ a = bE then rMarks (ln s5) s5 (nm s3) h else if nm s1 = bHide ∧ h = bE then rMarks (ln s5) s5 a (nm s3) else ((a, h), none)) := by
  have h0 := ln_tl_lt s 11 (by decide) h11
  have b1 := ln_mustT (nmT (mustT (nmT (tl s)) (isK (nmT (tl s)) 7))) (isK (nmT (mustT (nmT (tl s)) (isK (nmT (tl s)) 7))) 8)
  have b2 := ln_nmT (mustT (nmT (tl s)) (isK (nmT (tl s)) 7))
  have b3 := ln_mustT (nmT (tl s)) (isK (nmT (tl s)) 7)
  have b4 := ln_nmT (tl s)
  refine ⟨_, _, _, _, _, rfl, rfl, rfl, rfl, rfl, by omega, ?_⟩
  match s, h11, h0, b1, b2, b3, b4 with
  | none, h11, _, _, _, _, _ => rw [isK_none 11 (by decide)] at h11; cases h11
  | some l, h11, h0, b1, b2, b3, b4 =>
    have e : ln (some l) = l.length + 1 := rfl
    rw [e] at h0 ⊢
    simp only [rMarks]
    rw [if_pos h11, rMarks_fuel l.length _ _ _ (by omega), rMarks_fuel l.length _ _ _ (by omega)]

theorem mk_yes (y a : ByteArray) (l : List UInt8) (h : (y.toList == l && a.toList.isEmpty) = true) : y = ofB l ∧ a = bE := by
  rw [beq_lit] at h
  simp only [Bool.and_eq_true, decide_eq_true_eq, List.isEmpty_iff] at h
  refine ⟨h.1, ?_⟩
  apply ByteArray.ext; apply Array.toList_inj.1; rw [← Lib.toList_data, h.2]; rfl
theorem mk_no (y a : ByteArray) (l : List UInt8) (h : (y.toList == l && a.toList.isEmpty) = false) : ¬ (y = ofB l ∧ a = bE) := by
  rintro ⟨rfl, rfl⟩
  rw [beq_lit] at h
  simp [Lib.toList_data, bE] at h

theorem badArg_eq (a t : ByteArray) : badArg a t = ((!(a.toList == [105, 100]) || !(t.toList == [73, 68])) && (!(a.toList == [102, 105, 114, 115, 116]) || !(t.toList == [73, 110, 116]))) := by
  unfold badArg
  rw [beq_lit, beq_lit, beq_lit, beq_lit]; rfl
set_option maxHeartbeats 4000000 in
set_option maxRecDepth 100000 in
theorem field_any (w : World) (b : Nat) (L : Value) (ts : List Tk) (s : St) (h : RS w b L ts s) :
    Calls Tryz.prog 72 #[.pointer (some ⟨b, 0, none⟩)] w fun e w' => e = .returned (.agg (fldV (rField s).1)) ∧ RS w' b L ts (rField s).2 ∧ Keep b w w' := by
  have hlt := h.lt
  have hr0 : RS ((w.alloc (.cells #[.string ⟨#[]⟩, .string ⟨#[]⟩, .string ⟨#[]⟩, .string ⟨#[]⟩, .string ⟨#[]⟩] 121)).alloc (.cells #[.string ⟨#[]⟩, .string ⟨#[]⟩, .string ⟨#[]⟩, .string ⟨#[]⟩, .string ⟨#[]⟩] 121)) b L ts s := h.below (two_below _ _ _)
  have HR0 := hide (two_R w (.cells #[.string ⟨#[]⟩, .string ⟨#[]⟩, .string ⟨#[]⟩, .string ⟨#[]⟩, .string ⟨#[]⟩] 121) (.cells #[.string ⟨#[]⟩, .string ⟨#[]⟩, .string ⟨#[]⟩, .string ⟨#[]⟩, .string ⟨#[]⟩] 121))
  have HF0 := hide (two_F w (.cells #[.string ⟨#[]⟩, .string ⟨#[]⟩, .string ⟨#[]⟩, .string ⟨#[]⟩, .string ⟨#[]⟩] 121) (.cells #[.string ⟨#[]⟩, .string ⟨#[]⟩, .string ⟨#[]⟩, .string ⟨#[]⟩, .string ⟨#[]⟩] 121))
  have hK0 : Keep b w ((w.alloc (.cells #[.string ⟨#[]⟩, .string ⟨#[]⟩, .string ⟨#[]⟩, .string ⟨#[]⟩, .string ⟨#[]⟩] 121)).alloc (.cells #[.string ⟨#[]⟩, .string ⟨#[]⟩, .string ⟨#[]⟩, .string ⟨#[]⟩, .string ⟨#[]⟩] 121)) := Keep.of_below (two_below _ _ _)
  clear h
  go_enter Tryz.func72, Tryz.ntmps72
  go_wp2_with fail
  generalize (w.alloc (.cells #[.string ⟨#[]⟩, .string ⟨#[]⟩, .string ⟨#[]⟩, .string ⟨#[]⟩, .string ⟨#[]⟩] 121)).alloc (.cells #[.string ⟨#[]⟩, .string ⟨#[]⟩, .string ⟨#[]⟩, .string ⟨#[]⟩, .string ⟨#[]⟩] 121) = w0 at *
  refine (name_any w0 b L ts s hr0).mono ?_
  rintro e w1 ⟨rfl, hr1, hk1⟩
  have HF1 := hide (hk1.at HF0.out (by omega))
  have HR1 := hide (hk1.at HR0.out (by omega))
  have hK1 := hK0.trans hk1
  clear HF0 HR0 hK0 hr0 hk1
  have c0 : w1.cell? ⟨w.heap.size + 1, 0, none⟩ = some (.string ⟨#[]⟩) := cell_of_block HF1.out 0
  have cf := frozen_of_block HF1.out 0
  go_wp2_with fail
  have hr2 := hr1.set HF1.out (by decide) (by decide) 0 (.string (nm s))
  have HF2 := hide (show (w1.setCell ⟨w.heap.size + 1, 0, none⟩ (.string (nm s))).heap[w.heap.size + 1]? = some (.cells #[.string (nm s), .string ⟨#[]⟩, .string ⟨#[]⟩, .string ⟨#[]⟩, .string ⟨#[]⟩] 121 (0, 0)) from setCell_block HF1.out 0 _)
  have HR2 := hide (show (w1.setCell ⟨w.heap.size + 1, 0, none⟩ (.string (nm s))).heap[w.heap.size]? = some (.cells #[.string ⟨#[]⟩, .string ⟨#[]⟩, .string ⟨#[]⟩, .string ⟨#[]⟩, .string ⟨#[]⟩] 121) from by rw [Below.heap_setCell _ _ _ _ (by simp)]; exact HR1.out)
  have hK2 := hK1.setNew ⟨w.heap.size + 1, 0, none⟩ (by simp) (.string (nm s))
  clear c0 cf HF1 HR1 hK1 hr1
  generalize w1.setCell ⟨w.heap.size + 1, 0, none⟩ (.string (nm s)) = w2 at *
  refine (mayM w2 b L ts (nmT s) 7 ⟨#[40]⟩ rfl (by decide) (by decide) hr2).mono ?_
  rintro e w3 ⟨rfl, hr3, hk3⟩
  have HF3 := hide (hk3.at HF2.out (by omega))
  have HR3 := hide (hk3.at HR2.out (by omega))
  have hK3 := hK2.trans hk3
  clear HF2 HR2 hK2 hr2 hk3
  go_upto_if 14 with fail
  go_cut [4] (fun v wc => ∃ (y : ByteArray) (s7 : St), RS wc b L ts s7 ∧ wc.heap[w.heap.size + 1]? = some (.cells #[.string (nm s), .string y, .string ⟨#[]⟩, .string ⟨#[]⟩, .string ⟨#[]⟩] 121 (0, 0)) ∧ wc.heap[w.heap.size]? = some (.cells #[.string ⟨#[]⟩, .string ⟨#[]⟩, .string ⟨#[]⟩, .string ⟨#[]⟩, .string ⟨#[]⟩] 121) ∧ Keep b w wc ∧ rArg (nmT s) = (y, s7))
  case first =>
    cases h7 : isK (nmT s) 7
    · have HX := hide (show rArg (nmT s) = (bE, nmT s) from by unfold rArg; rw [h7]; rfl)
      rw [h7] at hr3
      clear h7
      go_wp2_with fail
      go_meet
      exact ⟨_, _, hr3, HF3.out, HR3.out, hK3, HX.out⟩
    · rw [h7] at hr3
      have hr3 : RS w3 b L ts (tl (nmT s)) := hr3
      have HA7 := hide h7
      clear h7
      generalize hs2 : tl (nmT s) = s2 at *
      have HS2 := hide hs2
      clear hs2
      go_wp2_with fail
      refine (name_any w3 b L ts s2 hr3).mono ?_
      rintro e w4 ⟨rfl, hr4, hk4⟩
      have HF4 := hide (hk4.at HF3.out (by omega))
      have HR4 := hide (hk4.at HR3.out (by omega))
      have hK4 := hK3.trans hk4
      clear HF3 HR3 hK3 hr3 hk4
      have c0 : w4.cell? ⟨w.heap.size + 1, 1, none⟩ = some (.string ⟨#[]⟩) := cell_of_block HF4.out 1
      have cf := frozen_of_block HF4.out 1
      go_wp2_with fail
      have hr5 := hr4.set HF4.out (by decide) (by decide) 1 (.string (nm s2))
      have HF5 := hide (show (w4.setCell ⟨w.heap.size + 1, 1, none⟩ (.string (nm s2))).heap[w.heap.size + 1]? = some (.cells #[.string (nm s), .string (nm s2), .string ⟨#[]⟩, .string ⟨#[]⟩, .string ⟨#[]⟩] 121 (0, 0)) from setCell_block HF4.out 1 _)
      have HR5 := hide (show (w4.setCell ⟨w.heap.size + 1, 1, none⟩ (.string (nm s2))).heap[w.heap.size]? = some (.cells #[.string ⟨#[]⟩, .string ⟨#[]⟩, .string ⟨#[]⟩, .string ⟨#[]⟩, .string ⟨#[]⟩] 121) from by rw [Below.heap_setCell _ _ _ _ (by simp)]; exact HR4.out)
      have hK5 := hK4.setNew ⟨w.heap.size + 1, 1, none⟩ (by simp) (.string (nm s2))
      clear c0 cf HF4 HR4 hK4 hr4
      generalize w4.setCell ⟨w.heap.size + 1, 1, none⟩ (.string (nm s2)) = w5 at *
      refine (mustM w5 b L ts (nmT s2) 9 ⟨#[58]⟩ rfl (by decide) (by decide) hr5).mono ?_
      rintro e w6 ⟨rfl, hr6, hk6⟩
      have HF6 := hide (hk6.at HF5.out (by omega))
      have HR6 := hide (hk6.at HR5.out (by omega))
      have hK6 := hK5.trans hk6
      clear HF5 HR5 hK5 hr5 hk6
      generalize hs4 : mustT (nmT s2) (isK (nmT s2) 9) = s4 at *
      have HS4 := hide hs4
      clear hs4
      go_wp2_with fail
      refine (name_any w6 b L ts s4 hr6).mono ?_
      rintro e w7 ⟨rfl, hr7, hk7⟩
      have HF7 := hide (hk7.at HF6.out (by omega))
      have HR7 := hide (hk7.at HR6.out (by omega))
      have hK7 := hK6.trans hk7
      clear HF6 HR6 hK6 hr6 hk7
      have c0 : w7.cell? ⟨w.heap.size + 1, 1, none⟩ = some (.string (nm s2)) := cell_of_block HF7.out 1
      have HS := hide (show rArg (nmT s) = (nm s2, mustT (if badArg (nm s2) (nm s4) = true then none else nmT s4) (isK (if badArg (nm s2) (nm s4) = true then none else nmT s4) 8)) from by unfold rArg; rw [HA7.out]; simp only [if_true]; rw [HS2.out, HS4.out])
      clear HA7 HS2 HS4
      have hba := badArg_eq (nm s2) (nm s4)
      generalize hy2 : nm s2 = y2 at *
      generalize hy4 : nm s4 = y4 at *
      clear hy2 hy4
      have HBA := hide hba
      clear hba
      cases t1 : (y2.toList == [105, 100])
      · cases t2 : (y2.toList == [102, 105, 114, 115, 116])
        · have hbad : badArg y2 y4 = true := by rw [HBA.out, t1, t2]; rfl
          rw [hbad] at HS
          clear hbad HBA
          obtain ⟨⟨q, cq⟩, fq, hn⟩ := hr7.fail
          have HF8 := hide (set_other_at HF7.out (show w.heap.size + 1 ≠ b by omega) 2 (.bool true))
          have HR8 := hide (set_other_at HR7.out (show w.heap.size ≠ b by omega) 2 (.bool true))
          have hK8 := hK7.setCell 2 (.bool true)
          have hr8 := hn
          clear hn
          go_wp2_with fail
          clear c0 cq fq HF7 HR7 hK7 hr7
          generalize w7.setCell ⟨b, 2, none⟩ (.bool true) = w8 at *
          refine (mustM w8 b L ts none 8 ⟨#[41]⟩ rfl (by decide) (by decide) hr8).mono ?_
          rintro e w9 ⟨rfl, hr9, hk9⟩
          have HF9 := hide (hk9.at HF8.out (by omega))
          have HR9 := hide (hk9.at HR8.out (by omega))
          have hK9 := hK8.trans hk9
          clear HF8 HR8 hK8 hr8 hk9
          go_wp2_with fail
          go_meet
          exact ⟨_, _, hr9, HF9.out, HR9.out, hK9, HS.out⟩
        · cases t3 : (y4.toList == [73, 110, 116])
          · have hbad : badArg y2 y4 = true := by rw [HBA.out, t1, t2, t3]; rfl
            rw [hbad] at HS
            clear hbad HBA
            obtain ⟨⟨q, cq⟩, fq, hn⟩ := hr7.fail
            have HF8 := hide (set_other_at HF7.out (show w.heap.size + 1 ≠ b by omega) 2 (.bool true))
            have HR8 := hide (set_other_at HR7.out (show w.heap.size ≠ b by omega) 2 (.bool true))
            have hK8 := hK7.setCell 2 (.bool true)
            have hr8 := hn
            clear hn
            go_wp2_with fail
            clear c0 cq fq HF7 HR7 hK7 hr7
            generalize w7.setCell ⟨b, 2, none⟩ (.bool true) = w8 at *
            refine (mustM w8 b L ts none 8 ⟨#[41]⟩ rfl (by decide) (by decide) hr8).mono ?_
            rintro e w9 ⟨rfl, hr9, hk9⟩
            have HF9 := hide (hk9.at HF8.out (by omega))
            have HR9 := hide (hk9.at HR8.out (by omega))
            have hK9 := hK8.trans hk9
            clear HF8 HR8 hK8 hr8 hk9
            go_wp2_with fail
            go_meet
            exact ⟨_, _, hr9, HF9.out, HR9.out, hK9, HS.out⟩
          · have hbad : badArg y2 y4 = false := by rw [HBA.out, t1, t2, t3]; rfl
            rw [hbad] at HS
            clear hbad HBA
            go_wp2_with fail
            clear c0
            refine (mustM w7 b L ts (nmT s4) 8 ⟨#[41]⟩ rfl (by decide) (by decide) hr7).mono ?_
            rintro e w8 ⟨rfl, hr8, hk8⟩
            have HF8 := hide (hk8.at HF7.out (by omega))
            have HR8 := hide (hk8.at HR7.out (by omega))
            have hK8 := hK7.trans hk8
            clear HF7 HR7 hK7 hr7 hk8
            go_wp2_with fail
            go_meet
            exact ⟨_, _, hr8, HF8.out, HR8.out, hK8, HS.out⟩
      · have t2 : (y2.toList == [102, 105, 114, 115, 116]) = false := by rw [beq_lit] at t1 ⊢; simp only [decide_eq_true_eq] at t1; rw [t1]; decide
        cases t3 : (y4.toList == [73, 68])
        · have hbad : badArg y2 y4 = true := by rw [HBA.out, t1, t2, t3]; rfl
          rw [hbad] at HS
          clear hbad HBA
          obtain ⟨⟨q, cq⟩, fq, hn⟩ := hr7.fail
          have HF8 := hide (set_other_at HF7.out (show w.heap.size + 1 ≠ b by omega) 2 (.bool true))
          have HR8 := hide (set_other_at HR7.out (show w.heap.size ≠ b by omega) 2 (.bool true))
          have hK8 := hK7.setCell 2 (.bool true)
          have hr8 := hn
          clear hn
          go_wp2_with fail
          clear c0 cq fq HF7 HR7 hK7 hr7
          generalize w7.setCell ⟨b, 2, none⟩ (.bool true) = w8 at *
          refine (mustM w8 b L ts none 8 ⟨#[41]⟩ rfl (by decide) (by decide) hr8).mono ?_
          rintro e w9 ⟨rfl, hr9, hk9⟩
          have HF9 := hide (hk9.at HF8.out (by omega))
          have HR9 := hide (hk9.at HR8.out (by omega))
          have hK9 := hK8.trans hk9
          clear HF8 HR8 hK8 hr8 hk9
          go_wp2_with fail
          go_meet
          exact ⟨_, _, hr9, HF9.out, HR9.out, hK9, HS.out⟩
        · have hbad : badArg y2 y4 = false := by rw [HBA.out, t1, t2, t3]; rfl
          rw [hbad] at HS
          clear hbad HBA
          go_wp2_with fail
          clear c0
          refine (mustM w7 b L ts (nmT s4) 8 ⟨#[41]⟩ rfl (by decide) (by decide) hr7).mono ?_
          rintro e w8 ⟨rfl, hr8, hk8⟩
          have HF8 := hide (hk8.at HF7.out (by omega))
          have HR8 := hide (hk8.at HR7.out (by omega))
          have hK8 := hK7.trans hk8
          clear HF7 HR7 hK7 hr7 hk8
          go_wp2_with fail
          go_meet
          exact ⟨_, _, hr8, HF8.out, HR8.out, hK8, HS.out⟩
  case rest =>
    clear HF3 HR3 hK3 hr3
    obtain ⟨y, s7, hr90, hF, hR, hK90, hs7⟩ := hcut
    have HF90 := hide hF
    have HR90 := hide hR
    have HS := hide (show (rArg (nmT s)).2 = s7 from by rw [hs7])
    have HARG := hide (show (rArg (nmT s)).1 = y from by rw [hs7])
    clear hF hR hs7
    obtain ⟨w90, hw90⟩ : ∃ w90, w90 = wc := ⟨_, rfl⟩
    subst hw90
    go_wp2_with fail
    refine (mustM w90 b L ts (s7) 9 ⟨#[58]⟩ rfl (by decide) (by decide) hr90).mono ?_
    rintro e w91 ⟨rfl, hr91, hk91⟩
    have HF91 := hide (hk91.at HF90.out (by omega))
    have HR91 := hide (hk91.at HR90.out (by omega))
    have hK91 := hK90.trans hk91
    clear HF90 HR90 hK90 hr90 hk91
    have HP8 := hide (show mustT (s7) (isK (s7) 9) = mustT (rArg (nmT s)).2 (isK (rArg (nmT s)).2 9) from by rw [HS.out])
    generalize mustT (s7) (isK (s7) 9) = s8 at *
    go_wp2_with fail
    refine (typeText_any 801 w91 b L ts s8 hr91.lnle (by decide) hr91).mono ?_
    rintro e w92 ⟨rfl, hr92, hk92, hz⟩
    have HF92 := hide (hk92.at HF91.out (by omega))
    have HR92 := hide (hk92.at HR91.out (by omega))
    have hK92 := hK91.trans hk92
    clear HF91 HR91 hK91 hr91 hk92
    generalize hty : rType 801 s8 = ty at *
    have HTY := hide hty
    clear hty hz
    have c0 : w92.cell? ⟨w.heap.size + 1, 2, none⟩ = some (.string ⟨#[]⟩) := cell_of_block HF92.out 2
    have cf := frozen_of_block HF92.out 2
    go_wp2_with fail
    have hr93 := hr92.set HF92.out (by decide) (by decide) 2 (.string ty.1)
    have HF93 := hide (show (w92.setCell ⟨w.heap.size + 1, 2, none⟩ (.string ty.1)).heap[w.heap.size + 1]? = some (.cells #[.string (nm s), .string y, .string ty.1, .string ⟨#[]⟩, .string ⟨#[]⟩] 121 (0, 0)) from setCell_block HF92.out 2 _)
    have HR93 := hide (show (w92.setCell ⟨w.heap.size + 1, 2, none⟩ (.string ty.1)).heap[w.heap.size]? = some (.cells #[.string ⟨#[]⟩, .string ⟨#[]⟩, .string ⟨#[]⟩, .string ⟨#[]⟩, .string ⟨#[]⟩] 121) from by rw [Below.heap_setCell _ _ _ _ (by simp)]; exact HR92.out)
    have hK93 := hK92.setNew ⟨w.heap.size + 1, 2, none⟩ (by simp) (.string ty.1)
    clear c0 cf HF92 HR92 hK92 hr92
    generalize w92.setCell ⟨w.heap.size + 1, 2, none⟩ (.string ty.1) = w93 at *
    have hln := hr93.lnle
    go_loopg [4] (ln ty.2) (fun k v wr => ∃ (a h : ByteArray) (s' : St), ln s' ≤ k ∧ RS wr b L ts s' ∧ wr.heap[w.heap.size + 1]? = some (.cells #[.string (nm s), .string y, .string ty.1, .string a, .string h] 121 (0, 0)) ∧ wr.heap[w.heap.size]? = some (.cells #[.string ⟨#[]⟩, .string ⟨#[]⟩, .string ⟨#[]⟩, .string ⟨#[]⟩, .string ⟨#[]⟩] 121) ∧ Keep b w wr ∧ rMarks 801 ty.2 bE bE = rMarks (ln s') s' a h)
    case atStart => exact ⟨⟨#[]⟩, ⟨#[]⟩, ty.2, Nat.le_refl _, hr93, HF93.out, HR93.out, hK93, rMarks_fuel _ _ _ _ hln⟩
    case round =>
      clear hr93 HF93 HR93 hK93 hln
      obtain ⟨a, h, s', hlk, hr, hF, hR, hK, hrel⟩ := hrel
      have HF := hide hF
      have HR := hide hR
      have HM := hide hrel
      have c2 := hr.badc
      clear hF hR hrel
      have fin : ∀ (wz : World), Keep b w wz → wz.heap[w.heap.size + 1]? = some (.cells #[.string (nm s), .string y, .string ty.1, .string a, .string h] 121 (0, 0)) → wz.heap[w.heap.size]? = some (.cells #[.string ⟨#[]⟩, .string ⟨#[]⟩, .string ⟨#[]⟩, .string ⟨#[]⟩, .string ⟨#[]⟩] 121) → ∀ sz, RS wz b L ts sz → RS ((((((wz.setCell ⟨w.heap.size, 0, none⟩ (.string (nm s))).setCell ⟨w.heap.size, 1, none⟩ (.string y)).setCell ⟨w.heap.size, 2, none⟩ (.string ty.1)).setCell ⟨w.heap.size, 3, none⟩ (.string a)).setCell ⟨w.heap.size, 4, none⟩ (.string h))) b L ts sz ∧ Keep b w ((((((wz.setCell ⟨w.heap.size, 0, none⟩ (.string (nm s))).setCell ⟨w.heap.size, 1, none⟩ (.string y)).setCell ⟨w.heap.size, 2, none⟩ (.string ty.1)).setCell ⟨w.heap.size, 3, none⟩ (.string a)).setCell ⟨w.heap.size, 4, none⟩ (.string h))) := fun wz q1 _ q3 sz q4 => by
        refine ⟨((((q4.set q3 (by decide) (by decide) 0 _).set (setCell_block q3 0 _) (by decide) (by decide) 1 _).set (setCell_block (setCell_block q3 0 _) 1 _) (by decide) (by decide) 2 _).set (setCell_block (setCell_block (setCell_block q3 0 _) 1 _) 2 _) (by decide) (by decide) 3 _).set (setCell_block (setCell_block (setCell_block (setCell_block q3 0 _) 1 _) 2 _) 3 _) (by decide) (by decide) 4 _, ((((q1.setNew _ (Nat.le_refl _) _).setNew _ (Nat.le_refl _) _).setNew _ (Nat.le_refl _) _).setNew _ (Nat.le_refl _) _).setNew _ (Nat.le_refl _) _⟩
      have FIN := hide fin
      clear fin
      cases hnn : s'.isNone
      · rw [hnn] at c2
        cases h11 : isK s' 11
        · have HM2 := hide (rMarks_no s' a h h11)
          have hm := mayM wr b L ts s' 11 ⟨#[64]⟩ rfl (by decide) (by decide) hr
          rw [h11] at hm
          clear h11 hnn
          go_wp2_with fail
          refine hm.mono ?_
          clear hm
          rintro e v1 ⟨rfl, hr1, hk1⟩
          have hr1 : RS v1 b L ts s' := hr1
          have hF1 := hk1.at HF.out (by omega)
          have hR1 := hk1.at HR.out (by omega)
          have hK1 := hK.trans hk1
          have p0 : v1.cell? ⟨w.heap.size + 1, 0, none⟩ = some (.string (nm s)) := cell_of_block hF1 0
          have r0 : v1.cell? ⟨w.heap.size, 0, none⟩ = some (.string ⟨#[]⟩) := cell_of_block hR1 0
          have p1 : v1.cell? ⟨w.heap.size + 1, 1, none⟩ = some (.string y) := cell_of_block hF1 1
          have r1 : v1.cell? ⟨w.heap.size, 1, none⟩ = some (.string ⟨#[]⟩) := cell_of_block hR1 1
          have p2 : v1.cell? ⟨w.heap.size + 1, 2, none⟩ = some (.string ty.1) := cell_of_block hF1 2
          have r2 : v1.cell? ⟨w.heap.size, 2, none⟩ = some (.string ⟨#[]⟩) := cell_of_block hR1 2
          have p3 : v1.cell? ⟨w.heap.size + 1, 3, none⟩ = some (.string a) := cell_of_block hF1 3
          have r3 : v1.cell? ⟨w.heap.size, 3, none⟩ = some (.string ⟨#[]⟩) := cell_of_block hR1 3
          have p4 : v1.cell? ⟨w.heap.size + 1, 4, none⟩ = some (.string h) := cell_of_block hF1 4
          have r4 : v1.cell? ⟨w.heap.size, 4, none⟩ = some (.string ⟨#[]⟩) := cell_of_block hR1 4
          have rf : ∀ j, v1.frozen? ⟨w.heap.size, j, none⟩ = false := fun j => frozen_of_block hR1 j
          have HZ := hide (FIN.out v1 hK1 hF1 hR1 s' hr1)
          clear hF1 hR1 FIN HF HR
          go_wp2_with fail
          have HRES := hide (show rField s = (⟨nm s, y, ty.1, a, h⟩, s') from by unfold rField; simp only [← HP8.out, HTY.out, HM.out, HM2.out, HARG.out]; try rfl)
          refine bodyPost_ret (v := .agg #[.string (nm s), .string y, .string ty.1, .string a, .string h]) (by simp [results, Tryz.results72, go_sem, r0, r1, r2, r3, r4]) rfl ⟨by rw [HRES.out]; rfl, by rw [HRES.out]; exact HZ.out.1, HZ.out.2⟩
        · obtain ⟨s1, s2, s3, s4, s5, e1, e2, e3, e4, e5, hl5, hy⟩ := rMarks_yes s' a h h11
          have HY := hide hy
          have HE := hide (And.intro e1 (And.intro e2 (And.intro e3 (And.intro e4 e5))))
          have hm := mayM wr b L ts s' 11 ⟨#[64]⟩ rfl (by decide) (by decide) hr
          rw [h11] at hm
          clear h11 hnn hy e1 e2 e3 e4 e5
          go_wp2_with fail
          refine hm.mono ?_
          clear hm
          rintro e v1 ⟨rfl, hr1, hk1⟩
          have hr1 : RS v1 b L ts s1 := by rw [HE.out.1]; exact hr1
          go_wp2_with fail
          refine (name_any v1 b L ts s1 hr1).mono ?_
          rintro e v2 ⟨rfl, hr2, hk2⟩
          rw [← HE.out.2.1] at hr2
          go_wp2_with fail
          refine (mustM v2 b L ts s2 7 ⟨#[40]⟩ rfl (by decide) (by decide) hr2).mono ?_
          rintro e v3 ⟨rfl, hr3, hk3⟩
          rw [← HE.out.2.2.1] at hr3
          go_wp2_with fail
          refine (name_any v3 b L ts s3 hr3).mono ?_
          rintro e v4 ⟨rfl, hr4, hk4⟩
          rw [← HE.out.2.2.2.1] at hr4
          go_wp2_with fail
          refine (mustM v4 b L ts s4 8 ⟨#[41]⟩ rfl (by decide) (by decide) hr4).mono ?_
          rintro e v5 ⟨rfl, hr5, hk5⟩
          rw [← HE.out.2.2.2.2] at hr5
          have hkk := (((hk1.trans hk2).trans hk3).trans hk4).trans hk5
          have hF5 := hkk.at HF.out (by omega)
          have HF5 := hide hF5
          have HR5 := hide (hkk.at HR.out (by omega))
          have hK5 := hK.trans hkk
          clear hr hr1 hr2 hr3 hr4 hk1 hk2 hk3 hk4 hk5 hkk HF HR hK c2 hF5 FIN
          have a3 : v5.cell? ⟨w.heap.size + 1, 3, none⟩ = some (.string a) := cell_of_block HF5.out 3
          have a4 : v5.cell? ⟨w.heap.size + 1, 4, none⟩ = some (.string h) := cell_of_block HF5.out 4
          have af3 := frozen_of_block HF5.out 3
          have af4 := frozen_of_block HF5.out 4
          generalize nm s1 = y1 at *
          generalize nm s3 = y3 at *
          cases tA : (y1.toList == [97, 117, 116, 104])
          · have t1 := hide (show (y1.toList == [97, 117, 116, 104] && a.toList.isEmpty) = false from by rw [tA]; rfl)
            cases tH : (y1.toList == [104, 105, 100, 101])
            · have t2 := hide (show (y1.toList == [104, 105, 100, 101] && h.toList.isEmpty) = false from by rw [tH]; rfl)
              have HB := hide (show rMarks 801 ty.2 bE bE = rMarks (ln none) none a h from by
                rw [HM.out, HY.out, if_neg (show ¬ (y1 = bAuth ∧ a = bE) from mk_no y1 a _ t1.out), if_neg (show ¬ (y1 = bHide ∧ h = bE) from mk_no y1 h _ t2.out)]; rfl)
              obtain ⟨⟨q, cq⟩, fq, hn⟩ := hr5.fail
              have hF6 := set_other_at HF5.out (show w.heap.size + 1 ≠ b by omega) 2 (.bool true)
              have hR6 := set_other_at HR5.out (show w.heap.size ≠ b by omega) 2 (.bool true)
              have hK6 := hK5.setCell 2 (.bool true)
              have HX := hide (And.intro hF6 (And.intro hR6 (And.intro hK6 hn)))
              clear hF6 hR6 hK6 hn
              go_wp2_with fail
              go_roundg (ln (none : St))
              case measure => simp only [ln] at *; omega
              case rel => exact ⟨a, h, none, Nat.le_refl _, HX.out.2.2.2, HX.out.1, HX.out.2.1, HX.out.2.2.1, HB.out⟩
            · cases tE : h.toList.isEmpty
              · have t2 := hide (show (y1.toList == [104, 105, 100, 101] && h.toList.isEmpty) = false from by rw [tH, tE]; rfl)
                have HB := hide (show rMarks 801 ty.2 bE bE = rMarks (ln none) none a h from by
                  rw [HM.out, HY.out, if_neg (show ¬ (y1 = bAuth ∧ a = bE) from mk_no y1 a _ t1.out), if_neg (show ¬ (y1 = bHide ∧ h = bE) from mk_no y1 h _ t2.out)]; rfl)
                obtain ⟨⟨q, cq⟩, fq, hn⟩ := hr5.fail
                have hF6 := set_other_at HF5.out (show w.heap.size + 1 ≠ b by omega) 2 (.bool true)
                have hR6 := set_other_at HR5.out (show w.heap.size ≠ b by omega) 2 (.bool true)
                have hK6 := hK5.setCell 2 (.bool true)
                have HX := hide (And.intro hF6 (And.intro hR6 (And.intro hK6 hn)))
                clear hF6 hR6 hK6 hn
                go_wp2_with fail
                go_roundg (ln (none : St))
                case measure => simp only [ln] at *; omega
                case rel => exact ⟨a, h, none, Nat.le_refl _, HX.out.2.2.2, HX.out.1, HX.out.2.1, HX.out.2.2.1, HB.out⟩
              · have t2 := hide (show (y1.toList == [104, 105, 100, 101] && h.toList.isEmpty) = true from by rw [tH, tE]; rfl)
                have HB := hide (show rMarks 801 ty.2 bE bE = rMarks (ln s5) s5 a y3 from by rw [HM.out, HY.out, if_neg (show ¬ (y1 = bAuth ∧ a = bE) from mk_no y1 a _ t1.out), if_pos (show y1 = bHide ∧ h = bE from mk_yes y1 h _ t2.out)])
                have hF6 := setCell_block HF5.out 4 (.string y3)
                have hR6 := set_other_at HR5.out (show w.heap.size ≠ w.heap.size + 1 by omega) 4 (.string y3)
                have hK6 := hK5.setNew ⟨w.heap.size + 1, 4, none⟩ (by simp) (.string y3)
                have hn := hr5.set HF5.out (by decide) (by decide) 4 (.string y3)
                have HX := hide (And.intro hF6 (And.intro hR6 (And.intro hK6 hn)))
                clear hF6 hR6 hK6 hn
                go_wp2_with fail
                go_roundg (ln s5)
                case measure => omega
                case rel => exact ⟨a, y3, s5, Nat.le_refl _, HX.out.2.2.2, HX.out.1, HX.out.2.1, HX.out.2.2.1, HB.out⟩
          · have tH : (y1.toList == [104, 105, 100, 101]) = false := by rw [beq_lit] at tA ⊢; simp only [decide_eq_true_eq] at tA; rw [tA]; decide
            cases tE : a.toList.isEmpty
            · have t1 := hide (show (y1.toList == [97, 117, 116, 104] && a.toList.isEmpty) = false from by rw [tA, tE]; rfl)
              have t2 := hide (show (y1.toList == [104, 105, 100, 101] && h.toList.isEmpty) = false from by rw [tH]; rfl)
              have HB := hide (show rMarks 801 ty.2 bE bE = rMarks (ln none) none a h from by
                rw [HM.out, HY.out, if_neg (show ¬ (y1 = bAuth ∧ a = bE) from mk_no y1 a _ t1.out), if_neg (show ¬ (y1 = bHide ∧ h = bE) from mk_no y1 h _ t2.out)]; rfl)
              obtain ⟨⟨q, cq⟩, fq, hn⟩ := hr5.fail
              have hF6 := set_other_at HF5.out (show w.heap.size + 1 ≠ b by omega) 2 (.bool true)
              have hR6 := set_other_at HR5.out (show w.heap.size ≠ b by omega) 2 (.bool true)
              have hK6 := hK5.setCell 2 (.bool true)
              have HX := hide (And.intro hF6 (And.intro hR6 (And.intro hK6 hn)))
              clear hF6 hR6 hK6 hn
              go_wp2_with fail
              go_roundg (ln (none : St))
              case measure => simp only [ln] at *; omega
              case rel => exact ⟨a, h, none, Nat.le_refl _, HX.out.2.2.2, HX.out.1, HX.out.2.1, HX.out.2.2.1, HB.out⟩
            · have t1 := hide (show (y1.toList == [97, 117, 116, 104] && a.toList.isEmpty) = true from by rw [tA, tE]; rfl)
              have HB := hide (show rMarks 801 ty.2 bE bE = rMarks (ln s5) s5 y3 h from by rw [HM.out, HY.out, if_pos (show y1 = bAuth ∧ a = bE from mk_yes y1 a _ t1.out)])
              have hF6 := setCell_block HF5.out 3 (.string y3)
              have hR6 := set_other_at HR5.out (show w.heap.size ≠ w.heap.size + 1 by omega) 3 (.string y3)
              have hK6 := hK5.setNew ⟨w.heap.size + 1, 3, none⟩ (by simp) (.string y3)
              have hn := hr5.set HF5.out (by decide) (by decide) 3 (.string y3)
              have HX := hide (And.intro hF6 (And.intro hR6 (And.intro hK6 hn)))
              clear hF6 hR6 hK6 hn
              go_wp2_with fail
              go_roundg (ln s5)
              case measure => omega
              case rel => exact ⟨y3, h, s5, Nat.le_refl _, HX.out.2.2.2, HX.out.1, HX.out.2.1, HX.out.2.2.1, HB.out⟩
      · rw [hnn] at c2
        have HM2 := hide (rMarks_no s' a h (isNone_isK s' hnn 11 (by decide)))
        have hF1 := HF.out
        have hR1 := HR.out
        have hK1 := hK
        have p0 : wr.cell? ⟨w.heap.size + 1, 0, none⟩ = some (.string (nm s)) := cell_of_block hF1 0
        have r0 : wr.cell? ⟨w.heap.size, 0, none⟩ = some (.string ⟨#[]⟩) := cell_of_block hR1 0
        have p1 : wr.cell? ⟨w.heap.size + 1, 1, none⟩ = some (.string y) := cell_of_block hF1 1
        have r1 : wr.cell? ⟨w.heap.size, 1, none⟩ = some (.string ⟨#[]⟩) := cell_of_block hR1 1
        have p2 : wr.cell? ⟨w.heap.size + 1, 2, none⟩ = some (.string ty.1) := cell_of_block hF1 2
        have r2 : wr.cell? ⟨w.heap.size, 2, none⟩ = some (.string ⟨#[]⟩) := cell_of_block hR1 2
        have p3 : wr.cell? ⟨w.heap.size + 1, 3, none⟩ = some (.string a) := cell_of_block hF1 3
        have r3 : wr.cell? ⟨w.heap.size, 3, none⟩ = some (.string ⟨#[]⟩) := cell_of_block hR1 3
        have p4 : wr.cell? ⟨w.heap.size + 1, 4, none⟩ = some (.string h) := cell_of_block hF1 4
        have r4 : wr.cell? ⟨w.heap.size, 4, none⟩ = some (.string ⟨#[]⟩) := cell_of_block hR1 4
        have rf : ∀ j, wr.frozen? ⟨w.heap.size, j, none⟩ = false := fun j => frozen_of_block hR1 j
        have HZ := hide (FIN.out wr hK1 hF1 hR1 s' hr)
        clear hF1 hR1 FIN HF HR
        go_wp2_with fail
        have HRES := hide (show rField s = (⟨nm s, y, ty.1, a, h⟩, s') from by unfold rField; simp only [← HP8.out, HTY.out, HM.out, HM2.out, HARG.out]; try rfl)
        refine bodyPost_ret (v := .agg #[.string (nm s), .string y, .string ty.1, .string a, .string h]) (by simp [results, Tryz.results72, go_sem, r0, r1, r2, r3, r4]) rfl ⟨by rw [HRES.out]; rfl, by rw [HRES.out]; exact HZ.out.1, HZ.out.2⟩
end Go.Proofs.YtpggfgjongkihaaGreat
namespace Go.Proofs.YtpggfgjongkihaaGreat
open Go.RowKit
def rFldF : Nat → St → List RFld × St
  | 0, s => ([], s)
  | n + 1, s => if s.isNone = true then ([], s) else
    if isK (rField s).2 15 = true then ([(rField s).1], tl (rField s).2)
    else ((rField s).1 :: (rFldF n (rField s).2).1, (rFldF n (rField s).2).2)
def rFields (s : St) : List RFld × St := rFldF 801 (mustT s (isK s 14))
def fldsV (l : List RFld) : List Value := l.flatMap fun f => (fldV f).toList
theorem fldsV_snoc (l : List RFld) (f : RFld) : fldsV (l ++ [f]) = fldsV l ++ (fldV f).toList := by simp [fldsV]
theorem ln_rType : ∀ (f : Nat) (s : St), ln (rType f s).2 ≤ ln s
  | 0, s => by simp [rType, ln]
  | f + 1, s => by
    rw [rType_succ]
    have key : ∀ p : ByteArray × St, ln p.2 ≤ ln s → ln (if isK p.2 5 = true then (p.1 ++ ⟨#[33]⟩, tl p.2) else (p.1, p.2)).2 ≤ ln s := by
      intro p hp
      split
      · exact Nat.le_trans (ln_tl_le _) hp
      · exact hp
    apply key
    split
    · exact Nat.le_trans (ln_mustT _ _) (Nat.le_trans (ln_rType f (tl s)) (ln_tl_le s))
    · exact ln_nmT s
theorem ln_rArg (s : St) : ln (rArg s).2 ≤ ln s := by
  unfold rArg
  split
  · simp only
    refine Nat.le_trans (ln_mustT _ _) ?_
    split
    · simp [ln]
    · exact Nat.le_trans (ln_nmT _) (Nat.le_trans (ln_mustT _ _) (Nat.le_trans (ln_nmT _) (ln_tl_le s)))
  · exact Nat.le_refl _
theorem ln_rMarks : ∀ (f : Nat) (s : St) (a h : ByteArray), ln (rMarks f s a h).2 ≤ ln s
  | 0, s, a, h => Nat.le_refl _
  | f + 1, s, a, h => by
    simp only [rMarks]
    have b1 := ln_mustT (nmT (mustT (nmT (tl s)) (isK (nmT (tl s)) 7))) (isK (nmT (mustT (nmT (tl s)) (isK (nmT (tl s)) 7))) 8)
    have b2 := ln_nmT (mustT (nmT (tl s)) (isK (nmT (tl s)) 7))
    have b3 := ln_mustT (nmT (tl s)) (isK (nmT (tl s)) 7)
    have b4 := ln_nmT (tl s)
    have b5 := ln_tl_le s
    split
    · split
      · exact Nat.le_trans (ln_rMarks f _ _ _) (by omega)
      split
      · exact Nat.le_trans (ln_rMarks f _ _ _) (by omega)
      · simp [ln]
    · exact Nat.le_refl _
theorem ln_rField (s : St) (h : s.isNone = false) : ln (rField s).2 < ln s := by
  have h1 : ln (nmT s) < ln s := by
    unfold nmT
    split
    · rename_i hk; exact ln_tl_lt s 1 (by decide) hk
    · match s, h with
      | some l, _ => simp [ln]
  unfold rField
  simp only
  refine Nat.lt_of_le_of_lt (ln_rMarks _ _ _ _) (Nat.lt_of_le_of_lt (ln_rType _ _) (Nat.lt_of_le_of_lt (ln_mustT _ _) (Nat.lt_of_le_of_lt (ln_rArg _) h1)))
theorem rFldF_fuel : ∀ (f : Nat) (s : St), ln s ≤ f → rFldF f s = rFldF (ln s) s := by
  intro f
  induction f using Nat.strongRecOn with
  | _ f ih =>
    intro s hl
    match f, s, hl with
    | f, none, hl =>
      match f with
      | 0 => rfl
      | f + 1 => rfl
    | 0, some l, hl => simp [ln] at hl
    | f + 1, some l, hl =>
      show rFldF (f + 1) (some l) = rFldF (l.length + 1) (some l)
      have hl' : l.length ≤ f := by simpa [ln] using hl
      have h0 := ln_rField (some l) rfl
      have h1 : ln (some l) = l.length + 1 := rfl
      simp only [rFldF]
      have e : rFldF f (rField (some l)).2 = rFldF l.length (rField (some l)).2 := by
        rw [ih f (by omega) _ (by omega)]
        by_cases e : l.length = f
        · rw [e, ih f (by omega) _ (by omega)]
        · rw [ih l.length (by omega) _ (by omega)]
      rw [e]
theorem rFldF_none (s : St) (h : s.isNone = true) : rFldF (ln s) s = ([], s) := by
  match s, h with
  | none, _ => rfl
theorem rFldF_some (s : St) (h : s.isNone = false) : rFldF (ln s) s = if isK (rField s).2 15 = true then ([(rField s).1], tl (rField s).2) else ((rField s).1 :: (rFldF (ln (rField s).2) (rField s).2).1, (rFldF (ln (rField s).2) (rField s).2).2) := by
  have h0 := ln_rField s h
  match s, h, h0 with
  | some l, h, h0 =>
    have h1 : ln (some l) = l.length + 1 := rfl
    rw [h1] at h0 ⊢
    rw [← rFldF_fuel l.length (rField (some l)).2 (by omega)]
    rfl
theorem Tryz.info121 : (Tryz.prog.info? 121).map (fun i => (i.zero, i.size, i.bytes)) = some (some (.agg #[.string ⟨#[]⟩, .string ⟨#[]⟩, .string ⟨#[]⟩, .string ⟨#[]⟩, .string ⟨#[]⟩]), 5, 80) := by kernel_rfl
theorem one5 {a b c d e : Value} (h1 : a.oneCell' = true) (h2 : b.oneCell' = true) (h3 : c.oneCell' = true) (h4 : d.oneCell' = true) (h5 : e.oneCell' = true) : ∀ u ∈ [a, b, c, d, e], u.oneCell' = true := by
  intro u hu; simp at hu; rcases hu with rfl | rfl | rfl | rfl | rfl <;> assumption
theorem RS.grown {w w' : World} {b : Nat} {L : Value} {ts : List Tk} {s : St} {row : Option Nat} (h : RS w b L ts s) (hg : w.grownBy w' row) (hr : ∀ k, row = some k → k ≠ b ∧ L.ownBlock ≠ some k) : RS w' b L ts s := by
  obtain ⟨a, bad, q1, q2, q3⟩ := h.st
  refine ⟨⟨a, bad, ?_, q2, q3⟩, ?_, h.len, h.wf⟩
  · rw [hg.block b (lt_of_block q1) (fun e => (hr b e.symm).1 rfl)]; exact q1
  · exact ownsRow_of_block h.row fun k hk hlt => hg.block k hlt fun e => (hr k e.symm).2 hk
theorem RS.grown2 {w w' : World} {o o' : Obj} {b : Nat} {L : Value} {ts : List Tk} {s : St} {row : Option Nat} (h : RS w b L ts s) (hg : ((w.alloc o).alloc o').grownBy w' row) (hr : ∀ k, row = some k → k ≠ b ∧ L.ownBlock ≠ some k) : RS w' b L ts s :=
  ((h.below ((Below.refl _ _).alloc (Nat.le_refl _) _)).below ((Below.refl _ _).alloc (Nat.le_refl _) _)).grown hg hr
theorem RS.grown1 {w w' : World} {o : Obj} {b : Nat} {L : Value} {ts : List Tk} {s : St} {row : Option Nat} (h : RS w b L ts s) (hg : (w.alloc o).grownBy w' row) (hr : ∀ k, row = some k → k ≠ b ∧ L.ownBlock ≠ some k) : RS w' b L ts s :=
  (h.below ((Below.refl _ _).alloc (Nat.le_refl _) _)).grown hg hr
/-- the blocks of a reader, apart from rows of other types -/
theorem RS.apart {w : World} {b : Nat} {L : Value} {ts : List Tk} {s : St} {base n size : Nat} {e : TypeId} {v : Value} {xs : List Value} (h : RS w b L ts s) (ho : w.ownsRow base e size v n xs) (h1 : e ≠ 89) (h2 : e ≠ 137) : ∀ k, v.ownBlock = some k → k ≠ b ∧ L.ownBlock ≠ some k := by
  intro k hk
  obtain ⟨a, bad, q1, q2, q3⟩ := h.st
  rcases ho.2 with ⟨x, _⟩ | ⟨g, cap, cur, hv, hg, hh, r⟩
  · rw [x] at hk; cases hk
  · rw [hv] at hk; cases hk
    refine ⟨fun x => ?_, fun x => ?_⟩
    · subst x; rw [q1] at hh; cases hh; exact h1 rfl
    · rcases h.row.2 with ⟨y, _⟩ | ⟨g', cap', cur', hv', hg', hh', r'⟩
      · rw [y] at x; cases x
      · rw [hv'] at x; cases x; rw [hh'] at hh; cases hh; exact h2 rfl
set_option maxHeartbeats 2000000 in
set_option maxRecDepth 100000 in
theorem fields_any (w : World) (b : Nat) (L : Value) (ts : List Tk) (s : St) (h : RS w b L ts s) :
    Calls Tryz.prog 37 #[.pointer (some ⟨b, 0, none⟩)] w fun e w' => ∃ v, e = .returned v ∧ w'.ownsRow w.heap.size 121 5 v (rFields s).1.length (fldsV (rFields s).1) ∧ (rFields s).1.length ≤ 801 ∧ RS w' b L ts (rFields s).2 ∧ Keep b w w' := by
  obtain ⟨i0, hi, hz0, hz1, hz2⟩ := info_parts Tryz.info121
  have hlt := h.lt
  go_enter Tryz.func37, Tryz.ntmps37
  go_wp2_with fail
  refine (mustM w b L ts s 14 ⟨#[123]⟩ rfl (by decide) (by decide) h).mono ?_
  rintro e w1 ⟨rfl, hr1, hk1⟩
  have HQ := hide (show rFields s = rFldF 801 (mustT s (isK s 14)) from rfl)
  generalize mustT s (isK s 14) = s1 at *
  have hln := hr1.lnle
  go_wp2_with fail
  go_loopg [3] (ln s1) (fun k v wr => ∃ (acc : List RFld) (s' : St), ln s' ≤ k ∧ RS wr b L ts s' ∧ wr.ownsRow w.heap.size 121 5 v acc.length (fldsV acc) ∧ acc.length + ln s' ≤ 801 ∧ Keep b w wr ∧ rFldF 801 s1 = (acc ++ (rFldF (ln s') s').1, (rFldF (ln s') s').2))
  case atStart => exact ⟨[], s1, Nat.le_refl _, hr1, World.ownsRow_nil _ _ _ _, by simpa using hln, hk1, by rw [rFldF_fuel _ _ hln]; simp⟩
  case round =>
    clear hr1 hk1 hln
    obtain ⟨acc, s', hlk, hr, hown, hac, hK, hrel⟩ := hrel
    have HM := hide hrel
    have c2 := hr.badc
    have hwsz := hK.size
    clear hrel
    cases hnn : s'.isNone
    · rw [hnn] at c2
      have hl1 := ln_rField s' hnn
      have HS := hide (rFldF_some s' hnn)
      clear hnn
      go_wp2_with fail
      refine (field_any wr b L ts s' hr).mono ?_
      rintro e w2 ⟨rfl, hr2, hk2⟩
      obtain ⟨a0, bad0, q1, _, _⟩ := hr.st
      have hown2 := ownsRow_keep hown hk2 q1 (by decide)
      have hK2 := hK.trans hk2
      have hlow := hown.lt
      have hap := hr2.apart hown2 (by decide) (by decide)
      have hsz2 : w.heap.size ≤ w2.heap.size := hK2.size
      clear q1 hr hown hk2 hK c2
      generalize hf : (rField s').1 = f at *
      generalize hs2 : (rField s').2 = s2 at *
      clear hf hs2
      obtain ⟨fn, fa, ft, fau, fh⟩ := f
      have e5 : fldV ⟨fn, fa, ft, fau, fh⟩ = #[.string fn, .string fa, .string ft, .string fau, .string fh] := rfl
      rw [e5]
      go_wp2_with (at_builtin; refine wpList_append_own _ rfl _ _ 94 rfl w.heap.size 121 i0 _ 5 80 Tryz.underlying94 hi hz0 hz1 hz2 rfl (by decide) _ _ _ rfl ((hown2.alloc _).alloc _) ⟨w2.heap.size + 1, 0, none⟩ 1 1 [.string fn, .string fa, .string ft, .string fau, .string fh] rfl rfl (cells_new' _ _ _ _ (by simp)) (one5 rfl rfl rfl rfl rfl) (by unfold maxLen; omega) (by omega) (by simp; omega) ?_; intro v' w3 hown' hgrow _)
      have hr3 : RS w3 b L ts s2 := hr2.grown2 hgrow hap
      have hK3 : Keep b w w3 := ((hK2.alloc _).alloc _).grown hgrow (fun k hk => (hlow k hk).1)
      have hown3 : w3.ownsRow w.heap.size 121 5 v' (acc ++ [(⟨fn, fa, ft, fau, fh⟩ : RFld)]).length (fldsV (acc ++ [(⟨fn, fa, ft, fau, fh⟩ : RFld)])) := by
        rw [fldsV_snoc, List.length_append]; exact hown'
      clear hown' hgrow hown2 hr2 hK2 e5
      have hm := mayM w3 b L ts s2 15 ⟨#[125]⟩ rfl (by decide) (by decide) hr3
      cases h15 : isK s2 15
      · rw [h15] at hm
        have HS2 := hide (show rFldF 801 s1 = ((acc ++ [(⟨fn, fa, ft, fau, fh⟩ : RFld)]) ++ (rFldF (ln s2) s2).1, (rFldF (ln s2) s2).2) from by rw [HM.out, HS.out, h15]; simp)
        clear h15
        go_wp2_with fail
        refine hm.mono ?_
        clear hm
        rintro e w4 ⟨rfl, hr4, hk4⟩
        obtain ⟨a0, bad0, q1, _, _⟩ := hr3.st
        have hown4 := ownsRow_keep hown3 hk4 q1 (by decide)
        clear q1
        go_wp2_with fail
        go_roundg (ln s2)
        case measure => omega
        case rel => exact ⟨acc ++ [(⟨fn, fa, ft, fau, fh⟩ : RFld)], s2, Nat.le_refl _, hr4, hown4, by simp; omega, hK3.trans hk4, HS2.out⟩
      · rw [h15] at hm
        have HS2 := hide (show rFields s = (acc ++ [(⟨fn, fa, ft, fau, fh⟩ : RFld)], tl s2) from by rw [HQ.out, HM.out, HS.out, h15]; simp)
        clear h15
        go_wp2_with fail
        refine hm.mono ?_
        clear hm
        rintro e w4 ⟨rfl, hr4, hk4⟩
        obtain ⟨a0, bad0, q1, _, _⟩ := hr3.st
        have hown4 := ownsRow_keep hown3 hk4 q1 (by decide)
        clear q1
        go_wp2_with fail
        go_ret
        exact ⟨_, rfl, by rw [HS2.out]; exact hown4, by rw [HS2.out]; simp; omega, by rw [HS2.out]; exact hr4, hK3.trans hk4⟩
    · rw [hnn] at c2
      have HS2 := hide (show rFields s = (acc, s') from by rw [HQ.out, HM.out, rFldF_none s' hnn]; simp)
      clear hnn
      go_wp2_with fail
      go_ret
      exact ⟨_, rfl, by rw [HS2.out]; exact hown, by rw [HS2.out]; simp only; omega, by rw [HS2.out]; exact hr, hK⟩
end Go.Proofs.YtpggfgjongkihaaGreat
namespace Go.Proofs.YtpggfgjongkihaaGreat
open Go.RowKit
def bTrue : ByteArray := ofB [116, 114, 117, 101]
def bFalse : ByteArray := ofB [102, 97, 108, 115, 101]
def bNull : ByteArray := ofB [110, 117, 108, 108]
def isLit (s : St) : Bool := isK s 2 || isK s 3 || isW s bTrue || isW s bFalse || isW s bNull
def litT (s : St) : St := if isLit s = true then tl s else none
theorem isLit_eq (s : St) : isLit s = (decide (rk (hd s).k = 2) || decide (rk (hd s).k = 3) || (decide (rk (hd s).k = 1) && ((rs (hd s)).toList == [116, 114, 117, 101])) || (decide (rk (hd s).k = 1) && ((rs (hd s)).toList == [102, 97, 108, 115, 101])) || (decide (rk (hd s).k = 1) && ((rs (hd s)).toList == [110, 117, 108, 108]))) := by
  have h2 : isK s 2 = decide (rk (hd s).k = 2) := by
    unfold isK rk; rw [Bool.eq_iff_iff]; simp only [beq_iff_eq, decide_eq_true_eq]; split <;> omega
  have h3 : isK s 3 = decide (rk (hd s).k = 3) := by
    unfold isK rk; rw [Bool.eq_iff_iff]; simp only [beq_iff_eq, decide_eq_true_eq]; split <;> omega
  have hw : ∀ l : List UInt8, isW s (ofB l) = (decide (rk (hd s).k = 1) && ((rs (hd s)).toList == l)) := by
    intro l
    rw [← isR_word, beq_lit]; rfl
  unfold isLit
  rw [h2, h3, show bTrue = ofB [116, 114, 117, 101] from rfl, show bFalse = ofB [102, 97, 108, 115, 101] from rfl, show bNull = ofB [110, 117, 108, 108] from rfl, hw, hw, hw]
theorem isLit_pos (s : St) (h : isLit s = true) : isK s 0 = false := by
  unfold isLit isK isW at h
  unfold isK
  rw [beq_eq_false_iff_ne]
  intro e
  rw [e] at h
  simp at h
theorem two_tok (w1 : World) (o o' : Obj) : ((w1.alloc o).alloc o').heap[w1.heap.size]? = some o ∧ ((w1.alloc o).alloc o').heap[w1.heap.size + 1]? = some o' := ⟨two_R _ _ _, two_F _ _ _⟩

theorem set4_other (X : World) (N b : Nat) (h : b ≠ N) (x y z u : Value) : ((((X.setCell ⟨N, 0, none⟩ x).setCell ⟨N, 1, none⟩ y).setCell ⟨N, 2, none⟩ z).setCell ⟨N, 3, none⟩ u).heap[b]? = X.heap[b]? := by
  rw [Below.heap_setCell _ _ _ _ h, Below.heap_setCell _ _ _ _ h, Below.heap_setCell _ _ _ _ h, Below.heap_setCell _ _ _ _ h]
theorem set4_alloc1 (X : World) (N b : Nat) (h : b ≠ N) (hb : b < X.heap.size) (x y z u : Value) (o : Obj) : (((((X.setCell ⟨N, 0, none⟩ x).setCell ⟨N, 1, none⟩ y).setCell ⟨N, 2, none⟩ z).setCell ⟨N, 3, none⟩ u).alloc o).heap[b]? = X.heap[b]? := by
  rw [alloc_other _ _ _ (by simpa [World.setCell] using hb), set4_other _ _ _ h]
theorem set4_alloc2 (X : World) (N b : Nat) (h : b ≠ N) (hb : b < X.heap.size) (x y z u : Value) (o o' : Obj) : ((((((X.setCell ⟨N, 0, none⟩ x).setCell ⟨N, 1, none⟩ y).setCell ⟨N, 2, none⟩ z).setCell ⟨N, 3, none⟩ u).alloc o).alloc o').heap[b]? = X.heap[b]? := by
  rw [alloc_other _ _ _ (by simp [World.setCell]; omega), alloc_other _ _ _ (by simpa [World.setCell] using hb), set4_other _ _ _ h]

set_option maxHeartbeats 1000000 in
set_option maxRecDepth 100000 in
theorem plain2 (w : World) (b : Nat) (L : Value) (ts : List Tk) (s : St) (h : RS w b L ts s) (e2 : rk (hd s).k = 2) :
    Calls Tryz.prog 155 #[.pointer (some ⟨b, 0, none⟩)] w fun e w' => (∃ x y z, e = .returned (.tuple #[.agg #[.int .i64 x, .int .i64 y, .string z, .slice none 0 0], .bool (isLit s)])) ∧ RS w' b L ts (mayT s (isLit s)) ∧ Keep b w w' := by
  have hlt := h.lt
  have h' : RS (w.alloc (.cells #[.int .i64 0, .int .i64 0, .string ⟨#[]⟩, .slice none 0 0] 119)) b L ts s := h.below ((Below.refl _ _).alloc (Nat.le_refl _) _)
  have hp := peek_any (w.alloc (.cells #[.int .i64 0, .int .i64 0, .string ⟨#[]⟩, .slice none 0 0] 119)) b L ts s h'
  have H := hide h'
  have H0 := hide h
  clear h h'
  have HQ := hide (isLit_eq s)
  generalize hk1 : rk (hd s).k = k1 at *
  generalize hy : rs (hd s) = y at *
  generalize hn0 : (hd s).n = n at *
  clear hk1 hy hn0
  subst e2
  go_enter Tryz.func155, Tryz.ntmps155
  go_wp2_with fail
  refine hp.mono ?_
  clear hp
  rintro e w1 ⟨rfl, hb1⟩
  have HL := hide (show isLit s = true from by rw [HQ.out]; rfl)
  have HP := hide (isLit_pos s HL.out)
  obtain ⟨a, c1, f1, ha, hn⟩ := (((H.out.below hb1).below ((Below.refl _ _).alloc (Nat.le_refl _) (.cells #[.int .i64 2, .string y, .int .i64 n] 137))).below ((Below.refl _ _).alloc (Nat.le_refl _) (.cells #[.int .i64 1, .int .i64 n, .string ⟨#[]⟩, .slice none 0 0] 119))).next HP.out
  have HN := hide hn
  have hcx : ∀ j, w1.cell? ⟨w.heap.size, j, none⟩ = (w.alloc (.cells #[.int .i64 0, .int .i64 0, .string ⟨#[]⟩, .slice none 0 0] 119)).cell? ⟨w.heap.size, j, none⟩ := fun j => hb1.cell (by simp)
  have hf0 : ∀ j, w1.frozen? ⟨w.heap.size, j, none⟩ = false := fun j => by rw [hb1.frozen (by simp)]; exact frozen_new w _ j
  have hc0 : w1.cell? ⟨w.heap.size, 0, none⟩ = some (.int .i64 0) := by rw [hcx]; simp
  have hc1 : w1.cell? ⟨w.heap.size, 1, none⟩ = some (.int .i64 0) := by rw [hcx]; simp
  have hc2 : w1.cell? ⟨w.heap.size, 2, none⟩ = some (.string ⟨#[]⟩) := by rw [hcx]; simp
  have hc3 : w1.cell? ⟨w.heap.size, 3, none⟩ = some (.slice none 0 0) := by rw [hcx]; simp
  have hs1 : w.heap.size < w1.heap.size := by have := hb1.size; simp at this; omega
  have hs2 : w.heap.size < w1.heap.size + 1 := by omega
  have hlow : Below w.heap.size w w1 := ((Below.refl _ _).alloc (Nat.le_refl _) _).trans (hb1.mono (by simp))
  clear hcx
  have hK : ∀ x y' z u, Keep b w ((((((((w1.alloc (.cells #[.int .i64 2, .string y, .int .i64 n] 137)).alloc (.cells #[.int .i64 1, .int .i64 n, .string ⟨#[]⟩, .slice none 0 0] 119)).setCell ⟨b, 1, none⟩ (.int .i64 ((a : Int) + 1))).setCell ⟨w.heap.size, 0, none⟩ x).setCell ⟨w.heap.size, 1, none⟩ y').setCell ⟨w.heap.size, 2, none⟩ z).setCell ⟨w.heap.size, 3, none⟩ u)) := fun x y' z u =>
    (((((((Keep.of_below hlow).alloc _).alloc _).setCell 1 _).setNew _ (Nat.le_refl _) _).setNew _ (Nat.le_refl _) _).setNew _ (Nat.le_refl _) _).setNew _ (Nat.le_refl _) _
  clear hn hb1
  go_wp2_with fail
  refine bodyPost_ret (v := .tuple #[.agg #[.int .i64 1, .int .i64 n, .string ⟨#[]⟩, .slice none 0 0], .bool true]) (by simp [results, Tryz.results155, go_sem, hc0, hc1, hc2, hc3, hs1, hs2]) rfl ⟨⟨_, _, _, by rw [HL.out]⟩, ?_, hK _ _ _ _⟩
  rw [HL.out]
  exact HN.out.move H0.out (hK _ _ _ _) (set4_other _ _ _ (by omega) _ _ _ _)

set_option maxHeartbeats 1000000 in
set_option maxRecDepth 100000 in
theorem plain3 (w : World) (b : Nat) (L : Value) (ts : List Tk) (s : St) (h : RS w b L ts s) (e3 : rk (hd s).k = 3) :
    Calls Tryz.prog 155 #[.pointer (some ⟨b, 0, none⟩)] w fun e w' => (∃ x y z, e = .returned (.tuple #[.agg #[.int .i64 x, .int .i64 y, .string z, .slice none 0 0], .bool (isLit s)])) ∧ RS w' b L ts (mayT s (isLit s)) ∧ Keep b w w' := by
  have hlt := h.lt
  have h' : RS (w.alloc (.cells #[.int .i64 0, .int .i64 0, .string ⟨#[]⟩, .slice none 0 0] 119)) b L ts s := h.below ((Below.refl _ _).alloc (Nat.le_refl _) _)
  have hp := peek_any (w.alloc (.cells #[.int .i64 0, .int .i64 0, .string ⟨#[]⟩, .slice none 0 0] 119)) b L ts s h'
  have H := hide h'
  have H0 := hide h
  clear h h'
  have HQ := hide (isLit_eq s)
  generalize hk1 : rk (hd s).k = k1 at *
  generalize hy : rs (hd s) = y at *
  generalize hn0 : (hd s).n = n at *
  clear hk1 hy hn0
  subst e3
  go_enter Tryz.func155, Tryz.ntmps155
  go_wp2_with fail
  refine hp.mono ?_
  clear hp
  rintro e w1 ⟨rfl, hb1⟩
  have HL := hide (show isLit s = true from by rw [HQ.out]; rfl)
  have HP := hide (isLit_pos s HL.out)
  obtain ⟨a, c1, f1, ha, hn⟩ := (((H.out.below hb1).below ((Below.refl _ _).alloc (Nat.le_refl _) (.cells #[.int .i64 3, .string y, .int .i64 n] 137))).below ((Below.refl _ _).alloc (Nat.le_refl _) (.cells #[.int .i64 2, .int .i64 0, .string y, .slice none 0 0] 119))).next HP.out
  have HN := hide hn
  have hcx : ∀ j, w1.cell? ⟨w.heap.size, j, none⟩ = (w.alloc (.cells #[.int .i64 0, .int .i64 0, .string ⟨#[]⟩, .slice none 0 0] 119)).cell? ⟨w.heap.size, j, none⟩ := fun j => hb1.cell (by simp)
  have hf0 : ∀ j, w1.frozen? ⟨w.heap.size, j, none⟩ = false := fun j => by rw [hb1.frozen (by simp)]; exact frozen_new w _ j
  have hc0 : w1.cell? ⟨w.heap.size, 0, none⟩ = some (.int .i64 0) := by rw [hcx]; simp
  have hc1 : w1.cell? ⟨w.heap.size, 1, none⟩ = some (.int .i64 0) := by rw [hcx]; simp
  have hc2 : w1.cell? ⟨w.heap.size, 2, none⟩ = some (.string ⟨#[]⟩) := by rw [hcx]; simp
  have hc3 : w1.cell? ⟨w.heap.size, 3, none⟩ = some (.slice none 0 0) := by rw [hcx]; simp
  have hs1 : w.heap.size < w1.heap.size := by have := hb1.size; simp at this; omega
  have hs2 : w.heap.size < w1.heap.size + 1 := by omega
  have hlow : Below w.heap.size w w1 := ((Below.refl _ _).alloc (Nat.le_refl _) _).trans (hb1.mono (by simp))
  clear hcx
  have hK : ∀ x y' z u, Keep b w ((((((((w1.alloc (.cells #[.int .i64 3, .string y, .int .i64 n] 137)).alloc (.cells #[.int .i64 2, .int .i64 0, .string y, .slice none 0 0] 119)).setCell ⟨b, 1, none⟩ (.int .i64 ((a : Int) + 1))).setCell ⟨w.heap.size, 0, none⟩ x).setCell ⟨w.heap.size, 1, none⟩ y').setCell ⟨w.heap.size, 2, none⟩ z).setCell ⟨w.heap.size, 3, none⟩ u)) := fun x y' z u =>
    (((((((Keep.of_below hlow).alloc _).alloc _).setCell 1 _).setNew _ (Nat.le_refl _) _).setNew _ (Nat.le_refl _) _).setNew _ (Nat.le_refl _) _).setNew _ (Nat.le_refl _) _
  clear hn hb1
  go_wp2_with fail
  refine bodyPost_ret (v := .tuple #[.agg #[.int .i64 2, .int .i64 0, .string y, .slice none 0 0], .bool true]) (by simp [results, Tryz.results155, go_sem, hc0, hc1, hc2, hc3, hs1, hs2]) rfl ⟨⟨_, _, _, by rw [HL.out]⟩, ?_, hK _ _ _ _⟩
  rw [HL.out]
  exact HN.out.move H0.out (hK _ _ _ _) (set4_other _ _ _ (by omega) _ _ _ _)

set_option maxHeartbeats 1000000 in
set_option maxRecDepth 100000 in
theorem plainT (w : World) (b : Nat) (L : Value) (ts : List Tk) (s : St) (h : RS w b L ts s) (e1 : rk (hd s).k = 1) (u1 : ((rs (hd s)).toList == [116, 114, 117, 101]) = true) :
    Calls Tryz.prog 155 #[.pointer (some ⟨b, 0, none⟩)] w fun e w' => (∃ x y z, e = .returned (.tuple #[.agg #[.int .i64 x, .int .i64 y, .string z, .slice none 0 0], .bool (isLit s)])) ∧ RS w' b L ts (mayT s (isLit s)) ∧ Keep b w w' := by
  have hlt := h.lt
  have h' : RS (w.alloc (.cells #[.int .i64 0, .int .i64 0, .string ⟨#[]⟩, .slice none 0 0] 119)) b L ts s := h.below ((Below.refl _ _).alloc (Nat.le_refl _) _)
  have hp := peek_any (w.alloc (.cells #[.int .i64 0, .int .i64 0, .string ⟨#[]⟩, .slice none 0 0] 119)) b L ts s h'
  have H := hide h'
  have H0 := hide h
  clear h h'
  have HQ := hide (isLit_eq s)
  generalize hk1 : rk (hd s).k = k1 at *
  generalize hy : rs (hd s) = y at *
  generalize hn0 : (hd s).n = n at *
  clear hk1 hy hn0
  subst e1
  go_enter Tryz.func155, Tryz.ntmps155
  go_wp2_with fail
  refine hp.mono ?_
  clear hp
  rintro e w1 ⟨rfl, hb1⟩
  have HL := hide (show isLit s = true from by rw [HQ.out]; simp [u1])
  have HP := hide (isLit_pos s HL.out)
  obtain ⟨a, c1, f1, ha, hn⟩ := (((H.out.below hb1).below ((Below.refl _ _).alloc (Nat.le_refl _) (.cells #[.int .i64 1, .string y, .int .i64 n] 137))).below ((Below.refl _ _).alloc (Nat.le_refl _) (.cells #[.int .i64 3, .int .i64 1, .string ⟨#[]⟩, .slice none 0 0] 119))).next HP.out
  have HN := hide hn
  have hcx : ∀ j, w1.cell? ⟨w.heap.size, j, none⟩ = (w.alloc (.cells #[.int .i64 0, .int .i64 0, .string ⟨#[]⟩, .slice none 0 0] 119)).cell? ⟨w.heap.size, j, none⟩ := fun j => hb1.cell (by simp)
  have hf0 : ∀ j, w1.frozen? ⟨w.heap.size, j, none⟩ = false := fun j => by rw [hb1.frozen (by simp)]; exact frozen_new w _ j
  have hc0 : w1.cell? ⟨w.heap.size, 0, none⟩ = some (.int .i64 0) := by rw [hcx]; simp
  have hc1 : w1.cell? ⟨w.heap.size, 1, none⟩ = some (.int .i64 0) := by rw [hcx]; simp
  have hc2 : w1.cell? ⟨w.heap.size, 2, none⟩ = some (.string ⟨#[]⟩) := by rw [hcx]; simp
  have hc3 : w1.cell? ⟨w.heap.size, 3, none⟩ = some (.slice none 0 0) := by rw [hcx]; simp
  have hs1 : w.heap.size < w1.heap.size := by have := hb1.size; simp at this; omega
  have hs2 : w.heap.size < w1.heap.size + 1 := by omega
  have hlow : Below w.heap.size w w1 := ((Below.refl _ _).alloc (Nat.le_refl _) _).trans (hb1.mono (by simp))
  clear hcx
  have hK : ∀ x y' z u, Keep b w ((((((((w1.alloc (.cells #[.int .i64 1, .string y, .int .i64 n] 137)).alloc (.cells #[.int .i64 3, .int .i64 1, .string ⟨#[]⟩, .slice none 0 0] 119)).setCell ⟨b, 1, none⟩ (.int .i64 ((a : Int) + 1))).setCell ⟨w.heap.size, 0, none⟩ x).setCell ⟨w.heap.size, 1, none⟩ y').setCell ⟨w.heap.size, 2, none⟩ z).setCell ⟨w.heap.size, 3, none⟩ u)) := fun x y' z u =>
    (((((((Keep.of_below hlow).alloc _).alloc _).setCell 1 _).setNew _ (Nat.le_refl _) _).setNew _ (Nat.le_refl _) _).setNew _ (Nat.le_refl _) _).setNew _ (Nat.le_refl _) _
  clear hn hb1
  go_wp2_with fail
  refine bodyPost_ret (v := .tuple #[.agg #[.int .i64 3, .int .i64 1, .string ⟨#[]⟩, .slice none 0 0], .bool true]) (by simp [results, Tryz.results155, go_sem, hc0, hc1, hc2, hc3, hs1, hs2]) rfl ⟨⟨_, _, _, by rw [HL.out]⟩, ?_, hK _ _ _ _⟩
  rw [HL.out]
  exact HN.out.move H0.out (hK _ _ _ _) (set4_other _ _ _ (by omega) _ _ _ _)

set_option maxHeartbeats 1000000 in
set_option maxRecDepth 100000 in
theorem plainF (w : World) (b : Nat) (L : Value) (ts : List Tk) (s : St) (h : RS w b L ts s) (e1 : rk (hd s).k = 1) (u1 : ((rs (hd s)).toList == [116, 114, 117, 101]) = false) (u2 : ((rs (hd s)).toList == [102, 97, 108, 115, 101]) = true) :
    Calls Tryz.prog 155 #[.pointer (some ⟨b, 0, none⟩)] w fun e w' => (∃ x y z, e = .returned (.tuple #[.agg #[.int .i64 x, .int .i64 y, .string z, .slice none 0 0], .bool (isLit s)])) ∧ RS w' b L ts (mayT s (isLit s)) ∧ Keep b w w' := by
  have hlt := h.lt
  have h' : RS (w.alloc (.cells #[.int .i64 0, .int .i64 0, .string ⟨#[]⟩, .slice none 0 0] 119)) b L ts s := h.below ((Below.refl _ _).alloc (Nat.le_refl _) _)
  have hp := peek_any (w.alloc (.cells #[.int .i64 0, .int .i64 0, .string ⟨#[]⟩, .slice none 0 0] 119)) b L ts s h'
  have H := hide h'
  have H0 := hide h
  clear h h'
  have HQ := hide (isLit_eq s)
  generalize hk1 : rk (hd s).k = k1 at *
  generalize hy : rs (hd s) = y at *
  generalize hn0 : (hd s).n = n at *
  clear hk1 hy hn0
  subst e1
  go_enter Tryz.func155, Tryz.ntmps155
  go_wp2_with fail
  refine hp.mono ?_
  clear hp
  rintro e w1 ⟨rfl, hb1⟩
  have HL := hide (show isLit s = true from by rw [HQ.out]; simp [u2])
  have HP := hide (isLit_pos s HL.out)
  obtain ⟨a, c1, f1, ha, hn⟩ := (((H.out.below hb1).below ((Below.refl _ _).alloc (Nat.le_refl _) (.cells #[.int .i64 1, .string y, .int .i64 n] 137))).below ((Below.refl _ _).alloc (Nat.le_refl _) (.cells #[.int .i64 3, .int .i64 0, .string ⟨#[]⟩, .slice none 0 0] 119))).next HP.out
  have HN := hide hn
  have hcx : ∀ j, w1.cell? ⟨w.heap.size, j, none⟩ = (w.alloc (.cells #[.int .i64 0, .int .i64 0, .string ⟨#[]⟩, .slice none 0 0] 119)).cell? ⟨w.heap.size, j, none⟩ := fun j => hb1.cell (by simp)
  have hf0 : ∀ j, w1.frozen? ⟨w.heap.size, j, none⟩ = false := fun j => by rw [hb1.frozen (by simp)]; exact frozen_new w _ j
  have hc0 : w1.cell? ⟨w.heap.size, 0, none⟩ = some (.int .i64 0) := by rw [hcx]; simp
  have hc1 : w1.cell? ⟨w.heap.size, 1, none⟩ = some (.int .i64 0) := by rw [hcx]; simp
  have hc2 : w1.cell? ⟨w.heap.size, 2, none⟩ = some (.string ⟨#[]⟩) := by rw [hcx]; simp
  have hc3 : w1.cell? ⟨w.heap.size, 3, none⟩ = some (.slice none 0 0) := by rw [hcx]; simp
  have hs1 : w.heap.size < w1.heap.size := by have := hb1.size; simp at this; omega
  have hs2 : w.heap.size < w1.heap.size + 1 := by omega
  have hlow : Below w.heap.size w w1 := ((Below.refl _ _).alloc (Nat.le_refl _) _).trans (hb1.mono (by simp))
  clear hcx
  have hK : ∀ x y' z u, Keep b w ((((((((w1.alloc (.cells #[.int .i64 1, .string y, .int .i64 n] 137)).alloc (.cells #[.int .i64 3, .int .i64 0, .string ⟨#[]⟩, .slice none 0 0] 119)).setCell ⟨b, 1, none⟩ (.int .i64 ((a : Int) + 1))).setCell ⟨w.heap.size, 0, none⟩ x).setCell ⟨w.heap.size, 1, none⟩ y').setCell ⟨w.heap.size, 2, none⟩ z).setCell ⟨w.heap.size, 3, none⟩ u)) := fun x y' z u =>
    (((((((Keep.of_below hlow).alloc _).alloc _).setCell 1 _).setNew _ (Nat.le_refl _) _).setNew _ (Nat.le_refl _) _).setNew _ (Nat.le_refl _) _).setNew _ (Nat.le_refl _) _
  clear hn hb1
  go_wp2_with fail
  refine bodyPost_ret (v := .tuple #[.agg #[.int .i64 3, .int .i64 0, .string ⟨#[]⟩, .slice none 0 0], .bool true]) (by simp [results, Tryz.results155, go_sem, hc0, hc1, hc2, hc3, hs1, hs2]) rfl ⟨⟨_, _, _, by rw [HL.out]⟩, ?_, hK _ _ _ _⟩
  rw [HL.out]
  exact HN.out.move H0.out (hK _ _ _ _) (set4_other _ _ _ (by omega) _ _ _ _)

set_option maxHeartbeats 1000000 in
set_option maxRecDepth 100000 in
theorem plainN (w : World) (b : Nat) (L : Value) (ts : List Tk) (s : St) (h : RS w b L ts s) (e1 : rk (hd s).k = 1) (u1 : ((rs (hd s)).toList == [116, 114, 117, 101]) = false) (u2 : ((rs (hd s)).toList == [102, 97, 108, 115, 101]) = false) (u3 : ((rs (hd s)).toList == [110, 117, 108, 108]) = true) :
    Calls Tryz.prog 155 #[.pointer (some ⟨b, 0, none⟩)] w fun e w' => (∃ x y z, e = .returned (.tuple #[.agg #[.int .i64 x, .int .i64 y, .string z, .slice none 0 0], .bool (isLit s)])) ∧ RS w' b L ts (mayT s (isLit s)) ∧ Keep b w w' := by
  have hlt := h.lt
  have h' : RS (w.alloc (.cells #[.int .i64 0, .int .i64 0, .string ⟨#[]⟩, .slice none 0 0] 119)) b L ts s := h.below ((Below.refl _ _).alloc (Nat.le_refl _) _)
  have hp := peek_any (w.alloc (.cells #[.int .i64 0, .int .i64 0, .string ⟨#[]⟩, .slice none 0 0] 119)) b L ts s h'
  have H := hide h'
  have H0 := hide h
  clear h h'
  have HQ := hide (isLit_eq s)
  generalize hk1 : rk (hd s).k = k1 at *
  generalize hy : rs (hd s) = y at *
  generalize hn0 : (hd s).n = n at *
  clear hk1 hy hn0
  subst e1
  go_enter Tryz.func155, Tryz.ntmps155
  go_wp2_with fail
  refine hp.mono ?_
  clear hp
  rintro e w1 ⟨rfl, hb1⟩
  have HL := hide (show isLit s = true from by rw [HQ.out]; simp [u3])
  have HP := hide (isLit_pos s HL.out)
  obtain ⟨a, c1, f1, ha, hn⟩ := (((H.out.below hb1).below ((Below.refl _ _).alloc (Nat.le_refl _) (.cells #[.int .i64 1, .string y, .int .i64 n] 137))).below ((Below.refl _ _).alloc (Nat.le_refl _) (.cells #[.int .i64 0, .int .i64 0, .string ⟨#[]⟩, .slice none 0 0] 119))).next HP.out
  have HN := hide hn
  have hcx : ∀ j, w1.cell? ⟨w.heap.size, j, none⟩ = (w.alloc (.cells #[.int .i64 0, .int .i64 0, .string ⟨#[]⟩, .slice none 0 0] 119)).cell? ⟨w.heap.size, j, none⟩ := fun j => hb1.cell (by simp)
  have hf0 : ∀ j, w1.frozen? ⟨w.heap.size, j, none⟩ = false := fun j => by rw [hb1.frozen (by simp)]; exact frozen_new w _ j
  have hc0 : w1.cell? ⟨w.heap.size, 0, none⟩ = some (.int .i64 0) := by rw [hcx]; simp
  have hc1 : w1.cell? ⟨w.heap.size, 1, none⟩ = some (.int .i64 0) := by rw [hcx]; simp
  have hc2 : w1.cell? ⟨w.heap.size, 2, none⟩ = some (.string ⟨#[]⟩) := by rw [hcx]; simp
  have hc3 : w1.cell? ⟨w.heap.size, 3, none⟩ = some (.slice none 0 0) := by rw [hcx]; simp
  have hs1 : w.heap.size < w1.heap.size := by have := hb1.size; simp at this; omega
  have hs2 : w.heap.size < w1.heap.size + 1 := by omega
  have hlow : Below w.heap.size w w1 := ((Below.refl _ _).alloc (Nat.le_refl _) _).trans (hb1.mono (by simp))
  clear hcx
  have hK : ∀ x y' z u, Keep b w ((((((((w1.alloc (.cells #[.int .i64 1, .string y, .int .i64 n] 137)).alloc (.cells #[.int .i64 0, .int .i64 0, .string ⟨#[]⟩, .slice none 0 0] 119)).setCell ⟨b, 1, none⟩ (.int .i64 ((a : Int) + 1))).setCell ⟨w.heap.size, 0, none⟩ x).setCell ⟨w.heap.size, 1, none⟩ y').setCell ⟨w.heap.size, 2, none⟩ z).setCell ⟨w.heap.size, 3, none⟩ u)) := fun x y' z u =>
    (((((((Keep.of_below hlow).alloc _).alloc _).setCell 1 _).setNew _ (Nat.le_refl _) _).setNew _ (Nat.le_refl _) _).setNew _ (Nat.le_refl _) _).setNew _ (Nat.le_refl _) _
  clear hn hb1
  go_wp2_with fail
  refine bodyPost_ret (v := .tuple #[.agg #[.int .i64 0, .int .i64 0, .string ⟨#[]⟩, .slice none 0 0], .bool true]) (by simp [results, Tryz.results155, go_sem, hc0, hc1, hc2, hc3, hs1, hs2]) rfl ⟨⟨_, _, _, by rw [HL.out]⟩, ?_, hK _ _ _ _⟩
  rw [HL.out]
  exact HN.out.move H0.out (hK _ _ _ _) (set4_other _ _ _ (by omega) _ _ _ _)

set_option maxHeartbeats 1000000 in
set_option maxRecDepth 100000 in
theorem plainX (w : World) (b : Nat) (L : Value) (ts : List Tk) (s : St) (h : RS w b L ts s) (e1 : rk (hd s).k = 1) (u1 : ((rs (hd s)).toList == [116, 114, 117, 101]) = false) (u2 : ((rs (hd s)).toList == [102, 97, 108, 115, 101]) = false) (u3 : ((rs (hd s)).toList == [110, 117, 108, 108]) = false) :
    Calls Tryz.prog 155 #[.pointer (some ⟨b, 0, none⟩)] w fun e w' => (∃ x y z, e = .returned (.tuple #[.agg #[.int .i64 x, .int .i64 y, .string z, .slice none 0 0], .bool (isLit s)])) ∧ RS w' b L ts (mayT s (isLit s)) ∧ Keep b w w' := by
  have hlt := h.lt
  have h' : RS (w.alloc (.cells #[.int .i64 0, .int .i64 0, .string ⟨#[]⟩, .slice none 0 0] 119)) b L ts s := h.below ((Below.refl _ _).alloc (Nat.le_refl _) _)
  have hp := peek_any (w.alloc (.cells #[.int .i64 0, .int .i64 0, .string ⟨#[]⟩, .slice none 0 0] 119)) b L ts s h'
  have H := hide h'
  have H0 := hide h
  clear h h'
  have HQ := hide (isLit_eq s)
  generalize hk1 : rk (hd s).k = k1 at *
  generalize hy : rs (hd s) = y at *
  generalize hn0 : (hd s).n = n at *
  clear hk1 hy hn0
  subst e1
  go_enter Tryz.func155, Tryz.ntmps155
  go_wp2_with fail
  refine hp.mono ?_
  clear hp
  rintro e w1 ⟨rfl, hb1⟩
  have HL := hide (show isLit s = false from by rw [HQ.out]; simp [u1, u2, u3])
  have hcx : ∀ j, w1.cell? ⟨w.heap.size, j, none⟩ = (w.alloc (.cells #[.int .i64 0, .int .i64 0, .string ⟨#[]⟩, .slice none 0 0] 119)).cell? ⟨w.heap.size, j, none⟩ := fun j => hb1.cell (by simp)
  have hf0 : ∀ j, w1.frozen? ⟨w.heap.size, j, none⟩ = false := fun j => by rw [hb1.frozen (by simp)]; exact frozen_new w _ j
  have hc0 : w1.cell? ⟨w.heap.size, 0, none⟩ = some (.int .i64 0) := by rw [hcx]; simp
  have hc1 : w1.cell? ⟨w.heap.size, 1, none⟩ = some (.int .i64 0) := by rw [hcx]; simp
  have hc2 : w1.cell? ⟨w.heap.size, 2, none⟩ = some (.string ⟨#[]⟩) := by rw [hcx]; simp
  have hc3 : w1.cell? ⟨w.heap.size, 3, none⟩ = some (.slice none 0 0) := by rw [hcx]; simp
  have hs1 : w.heap.size < w1.heap.size := by have := hb1.size; simp at this; omega
  have hs2 : w.heap.size < w1.heap.size + 1 := by omega
  have hlow : Below w.heap.size w w1 := ((Below.refl _ _).alloc (Nat.le_refl _) _).trans (hb1.mono (by simp))
  clear hcx
  have hK : ∀ x y' z u, Keep b w ((((((w1.setCell ⟨w.heap.size, 0, none⟩ x).setCell ⟨w.heap.size, 1, none⟩ y').setCell ⟨w.heap.size, 2, none⟩ z).setCell ⟨w.heap.size, 3, none⟩ u).alloc (.cells #[.int .i64 1, .string y, .int .i64 n] 137)).alloc (.cells #[.int .i64 0, .int .i64 0, .string ⟨#[]⟩, .slice none 0 0] 119)) := fun x y' z u =>
    ((((((Keep.of_below hlow).setNew _ (Nat.le_refl _) _).setNew _ (Nat.le_refl _) _).setNew _ (Nat.le_refl _) _).setNew _ (Nat.le_refl _) _).alloc _).alloc _
  have HN := hide (H.out.below hb1)
  have hb2 : b < w1.heap.size := by omega
  clear hb1
  go_wp2_with fail
  refine bodyPost_ret (v := .tuple #[.agg #[.int .i64 0, .int .i64 0, .string ⟨#[]⟩, .slice none 0 0], .bool false]) (by simp [results, Tryz.results155, go_sem, hc0, hc1, hc2, hc3, hs1, hs2]) rfl ⟨⟨_, _, _, by rw [HL.out]⟩, ?_, hK _ _ _ _⟩
  rw [HL.out]
  exact HN.out.move H0.out (hK _ _ _ _) (set4_alloc2 _ _ _ (by omega) hb2 _ _ _ _ _ _)

set_option maxHeartbeats 1000000 in
set_option maxRecDepth 100000 in
theorem plain0 (w : World) (b : Nat) (L : Value) (ts : List Tk) (s : St) (h : RS w b L ts s) (e1 : ¬ rk (hd s).k = 1) (e2 : ¬ rk (hd s).k = 2) (e3 : ¬ rk (hd s).k = 3) :
    Calls Tryz.prog 155 #[.pointer (some ⟨b, 0, none⟩)] w fun e w' => (∃ x y z, e = .returned (.tuple #[.agg #[.int .i64 x, .int .i64 y, .string z, .slice none 0 0], .bool (isLit s)])) ∧ RS w' b L ts (mayT s (isLit s)) ∧ Keep b w w' := by
  have hlt := h.lt
  have h' : RS (w.alloc (.cells #[.int .i64 0, .int .i64 0, .string ⟨#[]⟩, .slice none 0 0] 119)) b L ts s := h.below ((Below.refl _ _).alloc (Nat.le_refl _) _)
  have hp := peek_any (w.alloc (.cells #[.int .i64 0, .int .i64 0, .string ⟨#[]⟩, .slice none 0 0] 119)) b L ts s h'
  have H := hide h'
  have H0 := hide h
  clear h h'
  have HQ := hide (isLit_eq s)
  generalize hk1 : rk (hd s).k = k1 at *
  generalize hy : rs (hd s) = y at *
  generalize hn0 : (hd s).n = n at *
  clear hk1 hy hn0
  have t1 : ((k1 : Int) == 1) = false := by simp; omega
  have t2 : ((k1 : Int) == 2) = false := by simp; omega
  have t3 : ((k1 : Int) == 3) = false := by simp; omega
  go_enter Tryz.func155, Tryz.ntmps155
  go_wp2_with fail
  refine hp.mono ?_
  clear hp
  rintro e w1 ⟨rfl, hb1⟩
  have HL := hide (show isLit s = false from by rw [HQ.out]; simp [e1, e2, e3])
  have hcx : ∀ j, w1.cell? ⟨w.heap.size, j, none⟩ = (w.alloc (.cells #[.int .i64 0, .int .i64 0, .string ⟨#[]⟩, .slice none 0 0] 119)).cell? ⟨w.heap.size, j, none⟩ := fun j => hb1.cell (by simp)
  have hf0 : ∀ j, w1.frozen? ⟨w.heap.size, j, none⟩ = false := fun j => by rw [hb1.frozen (by simp)]; exact frozen_new w _ j
  have hc0 : w1.cell? ⟨w.heap.size, 0, none⟩ = some (.int .i64 0) := by rw [hcx]; simp
  have hc1 : w1.cell? ⟨w.heap.size, 1, none⟩ = some (.int .i64 0) := by rw [hcx]; simp
  have hc2 : w1.cell? ⟨w.heap.size, 2, none⟩ = some (.string ⟨#[]⟩) := by rw [hcx]; simp
  have hc3 : w1.cell? ⟨w.heap.size, 3, none⟩ = some (.slice none 0 0) := by rw [hcx]; simp
  have hs1 : w.heap.size < w1.heap.size := by have := hb1.size; simp at this; omega
  have hs2 : w.heap.size < w1.heap.size + 1 := by omega
  have hlow : Below w.heap.size w w1 := ((Below.refl _ _).alloc (Nat.le_refl _) _).trans (hb1.mono (by simp))
  clear hcx
  have hK : ∀ x y' z u, Keep b w ((((((w1.setCell ⟨w.heap.size, 0, none⟩ x).setCell ⟨w.heap.size, 1, none⟩ y').setCell ⟨w.heap.size, 2, none⟩ z).setCell ⟨w.heap.size, 3, none⟩ u).alloc (.cells #[.int .i64 k1, .string y, .int .i64 n] 137)).alloc (.cells #[.int .i64 0, .int .i64 0, .string ⟨#[]⟩, .slice none 0 0] 119)) := fun x y' z u =>
    ((((((Keep.of_below hlow).setNew _ (Nat.le_refl _) _).setNew _ (Nat.le_refl _) _).setNew _ (Nat.le_refl _) _).setNew _ (Nat.le_refl _) _).alloc _).alloc _
  have HN := hide (H.out.below hb1)
  have hb2 : b < w1.heap.size := by omega
  clear hb1
  go_wp2_with fail
  refine bodyPost_ret (v := .tuple #[.agg #[.int .i64 0, .int .i64 0, .string ⟨#[]⟩, .slice none 0 0], .bool false]) (by simp [results, Tryz.results155, go_sem, hc0, hc1, hc2, hc3, hs1, hs2]) rfl ⟨⟨_, _, _, by rw [HL.out]⟩, ?_, hK _ _ _ _⟩
  rw [HL.out]
  exact HN.out.move H0.out (hK _ _ _ _) (set4_alloc2 _ _ _ (by omega) hb2 _ _ _ _ _ _)

theorem plain_any (w : World) (b : Nat) (L : Value) (ts : List Tk) (s : St) (h : RS w b L ts s) :
    Calls Tryz.prog 155 #[.pointer (some ⟨b, 0, none⟩)] w fun e w' => (∃ x y z, e = .returned (.tuple #[.agg #[.int .i64 x, .int .i64 y, .string z, .slice none 0 0], .bool (isLit s)])) ∧ RS w' b L ts (mayT s (isLit s)) ∧ Keep b w w' := by
  by_cases e2 : rk (hd s).k = 2
  · exact plain2 w b L ts s h e2
  by_cases e3 : rk (hd s).k = 3
  · exact plain3 w b L ts s h e3
  by_cases e1 : rk (hd s).k = 1
  · cases u1 : ((rs (hd s)).toList == [116, 114, 117, 101])
    · cases u2 : ((rs (hd s)).toList == [102, 97, 108, 115, 101])
      · cases u3 : ((rs (hd s)).toList == [110, 117, 108, 108])
        · exact plainX w b L ts s h e1 u1 u2 u3
        · exact plainN w b L ts s h e1 u1 u2 u3
      · exact plainF w b L ts s h e1 u1 u2
    · exact plainT w b L ts s h e1 u1
  · exact plain0 w b L ts s h e1 e2 e3
set_option maxHeartbeats 1000000 in
theorem literal_any (w : World) (b : Nat) (L : Value) (ts : List Tk) (s : St) (h : RS w b L ts s) :
    Calls Tryz.prog 146 #[.pointer (some ⟨b, 0, none⟩)] w fun e w' => (∃ v, e = .returned v) ∧ RS w' b L ts (litT s) ∧ Keep b w w' := by
  have hlt := h.lt
  have h' : RS (w.alloc (.cells #[.int .i64 0, .int .i64 0, .string ⟨#[]⟩, .slice none 0 0] 119)) b L ts s := h.below ((Below.refl _ _).alloc (Nat.le_refl _) _)
  have hp := plain_any (w.alloc (.cells #[.int .i64 0, .int .i64 0, .string ⟨#[]⟩, .slice none 0 0] 119)) b L ts s h'
  have H0 := hide h
  clear h h'
  cases hl : isLit s
  · rw [hl] at hp
    have HT := hide (show litT s = none from by unfold litT; rw [hl]; rfl)
    clear hl
    go_enter Tryz.func146, Tryz.ntmps146
    go_wp2_with fail
    refine hp.mono ?_
    clear hp
    rintro e w1 ⟨⟨x, y, z, rfl⟩, hr1, hk1⟩
    obtain ⟨⟨q, cq⟩, fq, hn⟩ := (hr1.below ((Below.refl _ _).alloc (Nat.le_refl _) (.cells #[.int .i64 x, .int .i64 y, .string z, .slice none 0 0] 119))).fail
    have HN := hide hn
    have hR := hk1.at (heap_alloc_new w (.cells #[.int .i64 0, .int .i64 0, .string ⟨#[]⟩, .slice none 0 0] 119)) (by omega)
    have HR := hide hR
    have hc0 : w1.cell? ⟨w.heap.size, 0, none⟩ = some (.int .i64 0) := cell_of_block hR 0
    have hc1 : w1.cell? ⟨w.heap.size, 1, none⟩ = some (.int .i64 0) := cell_of_block hR 1
    have hc2 : w1.cell? ⟨w.heap.size, 2, none⟩ = some (.string ⟨#[]⟩) := cell_of_block hR 2
    have hc3 : w1.cell? ⟨w.heap.size, 3, none⟩ = some (.slice none 0 0) := cell_of_block hR 3
    have hf0 : ∀ j, w1.frozen? ⟨w.heap.size, j, none⟩ = false := fun j => frozen_of_block hR j
    have hs1 : w.heap.size < w1.heap.size := lt_of_block hR
    have hK0 : Keep b w w1 := (Keep.of_below ((Below.refl _ _).alloc (Nat.le_refl _) _)).trans hk1
    have hK : ∀ x' y' z' u, Keep b w (((((((w1.alloc (.cells #[.int .i64 x, .int .i64 y, .string z, .slice none 0 0] 119)).setCell ⟨b, 2, none⟩ (.bool true)).setCell ⟨w.heap.size, 0, none⟩ x').setCell ⟨w.heap.size, 1, none⟩ y').setCell ⟨w.heap.size, 2, none⟩ z').setCell ⟨w.heap.size, 3, none⟩ u)) := fun x' y' z' u =>
      ((((((hK0).alloc _).setCell 2 _).setNew _ (Nat.le_refl _) _).setNew _ (Nat.le_refl _) _).setNew _ (Nat.le_refl _) _).setNew _ (Nat.le_refl _) _
    clear hn hR hk1 hr1
    go_wp2_with fail
    refine bodyPost_ret (v := .agg #[.int .i64 x, .int .i64 y, .string z, .slice none 0 0]) (by simp [results, Tryz.results146, go_sem, hc0, hc1, hc2, hc3, hs1]) rfl ⟨⟨_, rfl⟩, ?_, hK _ _ _ _⟩
    rw [HT.out]
    exact HN.out.move H0.out (hK _ _ _ _) (set4_other _ _ _ (by omega) _ _ _ _)
  · rw [hl] at hp
    have HT := hide (show litT s = tl s from by unfold litT; rw [hl]; rfl)
    clear hl
    go_enter Tryz.func146, Tryz.ntmps146
    go_wp2_with fail
    refine hp.mono ?_
    clear hp
    rintro e w1 ⟨⟨x, y, z, rfl⟩, hr1, hk1⟩
    have HN := hide hr1
    have hb2 : b < w1.heap.size := hr1.lt
    have hR := hk1.at (heap_alloc_new w (.cells #[.int .i64 0, .int .i64 0, .string ⟨#[]⟩, .slice none 0 0] 119)) (by omega)
    have hc0 : w1.cell? ⟨w.heap.size, 0, none⟩ = some (.int .i64 0) := cell_of_block hR 0
    have hc1 : w1.cell? ⟨w.heap.size, 1, none⟩ = some (.int .i64 0) := cell_of_block hR 1
    have hc2 : w1.cell? ⟨w.heap.size, 2, none⟩ = some (.string ⟨#[]⟩) := cell_of_block hR 2
    have hc3 : w1.cell? ⟨w.heap.size, 3, none⟩ = some (.slice none 0 0) := cell_of_block hR 3
    have hf0 : ∀ j, w1.frozen? ⟨w.heap.size, j, none⟩ = false := fun j => frozen_of_block hR j
    have hs1 : w.heap.size < w1.heap.size := lt_of_block hR
    have hK0 : Keep b w w1 := (Keep.of_below ((Below.refl _ _).alloc (Nat.le_refl _) _)).trans hk1
    have hK : ∀ x' y' z' u, Keep b w (((((w1.setCell ⟨w.heap.size, 0, none⟩ x').setCell ⟨w.heap.size, 1, none⟩ y').setCell ⟨w.heap.size, 2, none⟩ z').setCell ⟨w.heap.size, 3, none⟩ u).alloc (.cells #[.int .i64 x, .int .i64 y, .string z, .slice none 0 0] 119)) := fun x' y' z' u =>
      ((((hK0.setNew _ (Nat.le_refl _) _).setNew _ (Nat.le_refl _) _).setNew _ (Nat.le_refl _) _).setNew _ (Nat.le_refl _) _).alloc _
    clear hR hk1 hr1
    go_wp2_with fail
    refine bodyPost_ret (v := .agg #[.int .i64 x, .int .i64 y, .string z, .slice none 0 0]) (by simp [results, Tryz.results146, go_sem, hc0, hc1, hc2, hc3, hs1]) rfl ⟨⟨_, rfl⟩, ?_, hK _ _ _ _⟩
    rw [HT.out]
    exact HN.out.move H0.out (hK _ _ _ _) (set4_alloc1 _ _ _ (by omega) hb2 _ _ _ _ _)
end Go.Proofs.YtpggfgjongkihaaGreat
namespace Go.Proofs.YtpggfgjongkihaaGreat
open Go.RowKit
def bNot : ByteArray := ofB [110, 111, 116]
def bAll : ByteArray := ofB [97, 108, 108]
def bIs : ByteArray := ofB [105, 115]
def bViewer : ByteArray := ofB [118, 105, 101, 119, 101, 114]
def bAnd : ByteArray := ofB [97, 110, 100]
def bOr : ByteArray := ofB [111, 114]
def rNots : Nat → St → St
  | 0, s => s
  | f + 1, s => if isW s bNot = true then rNots f (tl s) else s
def unitWith (rr : St → St) (s : St) : St :=
  let s0 := rNots 801 s
  if isW s0 bAll = true then tl s0
  else if isW s0 bIs = true then nmT (tl s0)
  else if isK s0 7 = true then mustT (rr (tl s0)) (isK (rr (tl s0)) 8)
  else
    let s2 := mustT (nmT s0) (isK (nmT s0) 10)
    if isW s2 bViewer = true then tl s2 else litT s2
def rRuleF : Nat → St → St
  | 0, s => s
  | f + 1, s => if s.isNone = true then s else
    let s1 := unitWith (rRuleF f) s
    if isW s1 bAnd = true then rRuleF f (tl s1) else if isW s1 bOr = true then rRuleF f (tl s1) else s1
theorem ln_tl_ltW (s : St) (x : ByteArray) (h : isW s x = true) : ln (tl s) < ln s := by
  unfold isW at h
  simp only [Bool.and_eq_true] at h
  exact ln_tl_lt s 1 (by decide) h.1
theorem ln_rNots : ∀ (f : Nat) (s : St), ln (rNots f s) ≤ ln s
  | 0, s => Nat.le_refl _
  | f + 1, s => by
    simp only [rNots]; split
    · exact Nat.le_trans (ln_rNots f _) (ln_tl_le s)
    · exact Nat.le_refl _
theorem rNots_fuel : ∀ (f : Nat) (s : St), ln s ≤ f → rNots f s = rNots (ln s) s := by
  intro f
  induction f using Nat.strongRecOn with
  | _ f ih =>
    intro s hl
    match f, s, hl with
    | f, none, hl =>
      match f with
      | 0 => rfl
      | f + 1 => simp only [rNots, isW_none, ln]; rfl
    | 0, some l, hl => simp [ln] at hl
    | f + 1, some l, hl =>
      show rNots (f + 1) (some l) = rNots (l.length + 1) (some l)
      have hl' : l.length ≤ f := by simpa [ln] using hl
      simp only [rNots]
      by_cases hw : isW (some l) bNot = true
      · rw [if_pos hw, if_pos hw]
        have h0 := ln_tl_ltW (some l) bNot hw
        have h1 : ln (some l) = l.length + 1 := rfl
        rw [ih f (by omega) _ (by omega)]
        by_cases e : l.length = f
        · rw [e, ih f (by omega) _ (by omega)]
        · rw [ih l.length (by omega) _ (by omega)]
      · rw [if_neg hw, if_neg hw]
theorem rNots_step (s : St) : rNots (ln s) s = if isW s bNot = true then rNots (ln (tl s)) (tl s) else s := by
  match s with
  | none => simp [isW_none, ln, rNots]
  | some l =>
    show rNots (l.length + 1) (some l) = _
    simp only [rNots]
    by_cases hw : isW (some l) bNot = true
    · rw [if_pos hw, if_pos hw]
      have h0 := ln_tl_ltW (some l) bNot hw
      have h1 : ln (some l) = l.length + 1 := rfl
      exact rNots_fuel _ _ (by omega)
    · rw [if_neg hw, if_neg hw]
theorem ln_litT (s : St) : ln (litT s) ≤ ln s := by
  unfold litT; split
  · exact ln_tl_le s
  · simp [ln]
theorem ln_nmT_lt (s : St) (h : s.isNone = false) : ln (nmT s) < ln s := by
  unfold nmT
  split
  · rename_i hk; exact ln_tl_lt s 1 (by decide) hk
  · match s, h with
    | some l, _ => simp [ln]
theorem ln_unit (rr : St → St) (s : St) (hr : ∀ q, ln (rr q) ≤ ln q) (h : s.isNone = false) : ln (unitWith rr s) < ln s := by
  unfold unitWith
  simp only
  have h0 := ln_rNots 801 s
  generalize rNots 801 s = s0 at *
  by_cases h1 : isW s0 bAll = true
  · rw [if_pos h1]; have := ln_tl_ltW s0 _ h1; omega
  rw [if_neg h1]
  by_cases h2 : isW s0 bIs = true
  · rw [if_pos h2]; have := ln_tl_ltW s0 _ h2; have := ln_nmT (tl s0); omega
  rw [if_neg h2]
  by_cases h3 : isK s0 7 = true
  · rw [if_pos h3]; have := ln_tl_lt s0 7 (by decide) h3; have := hr (tl s0); have := ln_mustT (rr (tl s0)) (isK (rr (tl s0)) 8); omega
  rw [if_neg h3]
  have a1 : ln (nmT s0) < ln s := by
    cases hn : s0.isNone
    · have := ln_nmT_lt s0 hn; omega
    · match s0, hn with
      | none, _ =>
        match s, h with
        | some l, _ => simp [nmT, isK_none 1 (by decide), ln]
  have a2 := ln_mustT (nmT s0) (isK (nmT s0) 10)
  generalize mustT (nmT s0) (isK (nmT s0) 10) = s2 at *
  split
  · have := ln_tl_le s2; omega
  · have := ln_litT s2; omega
theorem ln_rRuleF : ∀ (f : Nat) (s : St), ln (rRuleF f s) ≤ ln s
  | 0, s => Nat.le_refl _
  | f + 1, s => by
    simp only [rRuleF]
    by_cases hn : s.isNone = true
    · rw [if_pos hn]; exact Nat.le_refl _
    rw [if_neg hn]
    have h0 := ln_unit (rRuleF f) s (ln_rRuleF f) (by cases hx : s.isNone <;> simp_all)
    generalize unitWith (rRuleF f) s = s1 at *
    have := ln_tl_le s1
    split
    · have := ln_rRuleF f (tl s1); omega
    split
    · have := ln_rRuleF f (tl s1); omega
    · omega
theorem unit_congr (r1 r2 : St → St) (s : St) (h : ∀ q, ln q < ln s → r1 q = r2 q) : unitWith r1 s = unitWith r2 s := by
  unfold unitWith
  simp only
  have h0 := ln_rNots 801 s
  generalize rNots 801 s = s0 at *
  by_cases h3 : isK s0 7 = true
  · have := ln_tl_lt s0 7 (by decide) h3
    rw [h (tl s0) (by omega)]
  · rw [if_neg h3, if_neg h3]
theorem rRuleF_fuel : ∀ (f : Nat) (s : St), ln s ≤ f → rRuleF f s = rRuleF (ln s) s := by
  intro f
  induction f using Nat.strongRecOn with
  | _ f ih =>
    intro s hl
    match f, s, hl with
    | f, none, hl =>
      match f with
      | 0 => rfl
      | f + 1 => rfl
    | 0, some l, hl => simp [ln] at hl
    | f + 1, some l, hl =>
      show rRuleF (f + 1) (some l) = rRuleF (l.length + 1) (some l)
      have hl' : l.length ≤ f := by simpa [ln] using hl
      have h1 : ln (some l) = l.length + 1 := rfl
      have key : ∀ q, ln q ≤ l.length → rRuleF f q = rRuleF l.length q := fun q hq => by
        rw [ih f (by omega) q (by omega)]
        by_cases e : l.length = f
        · rw [e, ih f (by omega) q (by omega)]
        · rw [ih l.length (by omega) q hq]
      have hu : unitWith (rRuleF f) (some l) = unitWith (rRuleF l.length) (some l) := unit_congr _ _ _ fun q hq => key q (by omega)
      have h2 := ln_unit (rRuleF l.length) (some l) (ln_rRuleF _) rfl
      simp only [rRuleF]
      rw [hu]
      have h3 := ln_tl_le (unitWith (rRuleF l.length) (some l))
      rw [key _ (by omega)]
theorem rRuleF_none (s : St) (h : s.isNone = true) : rRuleF (ln s) s = s := by
  match s, h with
  | none, _ => rfl
theorem rRuleF_step (s : St) (h : s.isNone = false) : ∃ n s1, ln s = n + 1 ∧ s1 = unitWith (rRuleF n) s ∧ ln s1 < ln s ∧ rRuleF (ln s) s = if isW s1 bAnd = true then rRuleF (ln (tl s1)) (tl s1) else if isW s1 bOr = true then rRuleF (ln (tl s1)) (tl s1) else s1 := by
  match s, h with
  | some l, h =>
    have h2 := ln_unit (rRuleF l.length) (some l) (ln_rRuleF _) rfl
    have h1 : ln (some l) = l.length + 1 := rfl
    refine ⟨l.length, _, rfl, rfl, h2, ?_⟩
    have h3 := ln_tl_le (unitWith (rRuleF l.length) (some l))
    show rRuleF (l.length + 1) (some l) = _
    simp only [rRuleF]
    rw [rRuleF_fuel l.length _ (by omega)]
    rfl
/-- what ruled does, for states of a length -/
def RuledAt (f : Nat) : Prop := ∀ (w : World) (b : Nat) (L : Value) (ts : List Tk) (s : St), ln s ≤ f → RS w b L ts s →
    Calls Tryz.prog 71 #[.pointer (some ⟨b, 0, none⟩)] w fun e w' => e = .returned (.tuple #[]) ∧ RS w' b L ts (rRuleF f s) ∧ Keep b w w'
set_option maxHeartbeats 2000000 in
set_option maxRecDepth 100000 in
theorem unit_any (f : Nat) (ih : RuledAt f) (w : World) (b : Nat) (L : Value) (ts : List Tk) (s : St) (hl : ln s ≤ f + 1) (h : RS w b L ts s) :
    Calls Tryz.prog 107 #[.pointer (some ⟨b, 0, none⟩)] w fun e w' => e = .returned (.tuple #[]) ∧ RS w' b L ts (unitWith (rRuleF f) s) ∧ Keep b w w' := by
  have hln := h.lnle
  go_enter Tryz.func107, Tryz.ntmps107
  go_wp2_with fail
  go_loopg [2] (ln s) (fun k v wr => ∃ s', ln s' ≤ k ∧ RS wr b L ts s' ∧ Keep b w wr ∧ rNots 801 s = rNots (ln s') s')
  case atStart => exact ⟨s, Nat.le_refl _, h, Keep.refl _ _, rNots_fuel _ _ hln⟩
  case round =>
    clear h hln
    obtain ⟨s', hlk, hr, hK, hrel⟩ := hrel
    have HM := hide hrel
    have HS := hide (rNots_step s')
    have c2 := hr.badc
    clear hrel
    cases hnn : s'.isNone
    · rw [hnn] at c2
      have hm := mayW wr b L ts s' ⟨#[110, 111, 116]⟩ hr
      cases hw : isW s' bNot
      · have hm2 := hm
        rw [show isW s' ⟨#[110, 111, 116]⟩ = isW s' bNot from rfl, hw] at hm2
        have H0 := hide (show rNots 801 s = s' from by rw [HM.out, HS.out, hw]; rfl)
        clear hm HM HS hw hnn
        go_wp2_with fail
        refine hm2.mono ?_
        clear hm2
        rintro e w0 ⟨rfl, hr0, hk0⟩
        have hr0 : RS w0 b L ts s' := hr0
        have hK0 := hK.trans hk0
        clear hr hK hk0 c2
        go_wp2_with fail
        refine (mayW w0 b L ts s' ⟨#[97, 108, 108]⟩ hr0).mono ?_
        rw [show isW s' ⟨#[97, 108, 108]⟩ = isW s' bAll from rfl]
        cases tA : isW s' bAll
        · rintro e x1 ⟨rfl, hr1, hk1⟩
          have hr1 : RS x1 b L ts s' := hr1
          have hK1 := hK0.trans hk1
          clear hr0 hK0 hk1
          have TA := hide tA
          clear tA
          go_wp2_with fail
          refine (mayW x1 b L ts s' ⟨#[105, 115]⟩ hr1).mono ?_
          rw [show isW s' ⟨#[105, 115]⟩ = isW s' bIs from rfl]
          cases tI : isW s' bIs
          · rintro e x2 ⟨rfl, hr2, hk2⟩
            have hr2 : RS x2 b L ts s' := hr2
            have hK2 := hK1.trans hk2
            clear hr1 hK1 hk2
            have TI := hide tI
            clear tI
            go_wp2_with fail
            refine (mayM x2 b L ts s' 7 ⟨#[40]⟩ rfl (by decide) (by decide) hr2).mono ?_
            cases tP : isK s' 7
            · rintro e x3 ⟨rfl, hr3, hk3⟩
              have hr3 : RS x3 b L ts s' := hr3
              have hK3 := hK2.trans hk3
              clear hr2 hK2 hk3
              have HE := hide (show unitWith (rRuleF f) s = if isW (mustT (nmT s') (isK (nmT s') 10)) bViewer = true then tl (mustT (nmT s') (isK (nmT s') 10)) else litT (mustT (nmT s') (isK (nmT s') 10)) from by unfold unitWith; simp only [H0.out]; rw [TA.out, TI.out, tP]; rfl)
              clear tP TA TI H0
              go_wp2_with fail
              refine (name_any x3 b L ts s' hr3).mono ?_
              rintro e x4 ⟨rfl, hr4, hk4⟩
              go_wp2_with fail
              refine (mustM x4 b L ts (nmT s') 10 ⟨#[61]⟩ rfl (by decide) (by decide) hr4).mono ?_
              rintro e x5 ⟨rfl, hr5, hk5⟩
              have hK5 := (hK3.trans hk4).trans hk5
              clear hr3 hr4 hK3 hk4 hk5
              generalize mustT (nmT s') (isK (nmT s') 10) = s2 at *
              go_wp2_with fail
              refine (mayW x5 b L ts s2 ⟨#[118, 105, 101, 119, 101, 114]⟩ hr5).mono ?_
              rw [show isW s2 ⟨#[118, 105, 101, 119, 101, 114]⟩ = isW s2 bViewer from rfl]
              cases tV : isW s2 bViewer
              · rintro e x6 ⟨rfl, hr6, hk6⟩
                have hr6 : RS x6 b L ts s2 := hr6
                rw [tV] at HE
                clear tV
                go_wp2_with fail
                refine (literal_any x6 b L ts s2 hr6).mono ?_
                rintro e x7 ⟨⟨v7, rfl⟩, hr7, hk7⟩
                go_wp2_with fail
                go_end0
                exact ⟨rfl, by rw [HE.out]; exact hr7, (hK5.trans hk6).trans hk7⟩
              · rintro e x6 ⟨rfl, hr6, hk6⟩
                rw [tV] at HE
                clear tV
                go_wp2_with fail
                go_end0
                exact ⟨rfl, by rw [HE.out]; exact hr6, hK5.trans hk6⟩
            · rintro e x3 ⟨rfl, hr3, hk3⟩
              have hr3 : RS x3 b L ts (tl s') := hr3
              have hK3 := hK2.trans hk3
              clear hr2 hK2 hk3
              have hlt := ln_tl_lt s' 7 (by decide) tP
              have HE := hide (show unitWith (rRuleF f) s = mustT (rRuleF f (tl s')) (isK (rRuleF f (tl s')) 8) from by unfold unitWith; simp only [H0.out]; rw [TA.out, TI.out, tP]; rfl)
              clear tP TA TI
              have hl0 := ln_rNots 801 s
              rw [H0.out] at hl0
              have hc := ih x3 b L ts (tl s') (by omega) hr3
              clear hl0 hlt H0
              go_wp2_with fail
              refine hc.mono ?_
              clear hc
              rintro e x4 ⟨rfl, hr4, hk4⟩
              go_wp2_with fail
              refine (mustM x4 b L ts (rRuleF f (tl s')) 8 ⟨#[41]⟩ rfl (by decide) (by decide) hr4).mono ?_
              rintro e x5 ⟨rfl, hr5, hk5⟩
              go_wp2_with fail
              refine bodyPost_ret (v := .tuple #[]) (by simp [results, Tryz.results107, go_sem]) rfl ⟨rfl, by rw [HE.out]; exact hr5, (hK3.trans hk4).trans hk5⟩
          · rintro e x2 ⟨rfl, hr2, hk2⟩
            have hr2 : RS x2 b L ts (tl s') := hr2
            have HE := hide (show unitWith (rRuleF f) s = nmT (tl s') from by unfold unitWith; simp only [H0.out]; rw [TA.out, tI]; rfl)
            clear tI TA H0
            go_wp2_with fail
            refine (name_any x2 b L ts (tl s') hr2).mono ?_
            rintro e x3 ⟨rfl, hr3, hk3⟩
            go_wp2_with fail
            refine bodyPost_ret (v := .tuple #[]) (by simp [results, Tryz.results107, go_sem]) rfl ⟨rfl, by rw [HE.out]; exact hr3, (hK1.trans hk2).trans hk3⟩
        · rintro e x1 ⟨rfl, hr1, hk1⟩
          have HE := hide (show unitWith (rRuleF f) s = tl s' from by unfold unitWith; simp only [H0.out]; rw [tA]; rfl)
          clear tA H0
          go_wp2_with fail
          refine bodyPost_ret (v := .tuple #[]) (by simp [results, Tryz.results107, go_sem]) rfl ⟨rfl, by rw [HE.out]; exact hr1, hK0.trans hk1⟩
      · have hm2 := hm
        rw [show isW s' ⟨#[110, 111, 116]⟩ = isW s' bNot from rfl, hw] at hm2
        have H0 := hide (show rNots 801 s = rNots (ln (tl s')) (tl s') from by rw [HM.out, HS.out, hw]; rfl)
        have hlt := ln_tl_ltW s' _ hw
        clear hm HM HS hw hnn
        go_wp2_with fail
        refine hm2.mono ?_
        clear hm2
        rintro e w0 ⟨rfl, hr0, hk0⟩
        go_wp2_with fail
        go_roundg (ln (tl s'))
        case measure => omega
        case rel => exact ⟨tl s', Nat.le_refl _, hr0, hK.trans hk0, H0.out⟩
    · rw [hnn] at c2
      have H0 := hide (show rNots 801 s = s' from by rw [HM.out, HS.out]; match s', hnn with | none, _ => rfl)
      have hK0 := hK
      have hr0 := hr
      clear HM HS hnn hK hr
      go_wp2_with fail
      refine (mayW wr b L ts s' ⟨#[97, 108, 108]⟩ hr0).mono ?_
      rw [show isW s' ⟨#[97, 108, 108]⟩ = isW s' bAll from rfl]
      cases tA : isW s' bAll
      · rintro e x1 ⟨rfl, hr1, hk1⟩
        have hr1 : RS x1 b L ts s' := hr1
        have hK1 := hK0.trans hk1
        clear hr0 hK0 hk1
        have TA := hide tA
        clear tA
        go_wp2_with fail
        refine (mayW x1 b L ts s' ⟨#[105, 115]⟩ hr1).mono ?_
        rw [show isW s' ⟨#[105, 115]⟩ = isW s' bIs from rfl]
        cases tI : isW s' bIs
        · rintro e x2 ⟨rfl, hr2, hk2⟩
          have hr2 : RS x2 b L ts s' := hr2
          have hK2 := hK1.trans hk2
          clear hr1 hK1 hk2
          have TI := hide tI
          clear tI
          go_wp2_with fail
          refine (mayM x2 b L ts s' 7 ⟨#[40]⟩ rfl (by decide) (by decide) hr2).mono ?_
          cases tP : isK s' 7
          · rintro e x3 ⟨rfl, hr3, hk3⟩
            have hr3 : RS x3 b L ts s' := hr3
            have hK3 := hK2.trans hk3
            clear hr2 hK2 hk3
            have HE := hide (show unitWith (rRuleF f) s = if isW (mustT (nmT s') (isK (nmT s') 10)) bViewer = true then tl (mustT (nmT s') (isK (nmT s') 10)) else litT (mustT (nmT s') (isK (nmT s') 10)) from by unfold unitWith; simp only [H0.out]; rw [TA.out, TI.out, tP]; rfl)
            clear tP TA TI H0
            go_wp2_with fail
            refine (name_any x3 b L ts s' hr3).mono ?_
            rintro e x4 ⟨rfl, hr4, hk4⟩
            go_wp2_with fail
            refine (mustM x4 b L ts (nmT s') 10 ⟨#[61]⟩ rfl (by decide) (by decide) hr4).mono ?_
            rintro e x5 ⟨rfl, hr5, hk5⟩
            have hK5 := (hK3.trans hk4).trans hk5
            clear hr3 hr4 hK3 hk4 hk5
            generalize mustT (nmT s') (isK (nmT s') 10) = s2 at *
            go_wp2_with fail
            refine (mayW x5 b L ts s2 ⟨#[118, 105, 101, 119, 101, 114]⟩ hr5).mono ?_
            rw [show isW s2 ⟨#[118, 105, 101, 119, 101, 114]⟩ = isW s2 bViewer from rfl]
            cases tV : isW s2 bViewer
            · rintro e x6 ⟨rfl, hr6, hk6⟩
              have hr6 : RS x6 b L ts s2 := hr6
              rw [tV] at HE
              clear tV
              go_wp2_with fail
              refine (literal_any x6 b L ts s2 hr6).mono ?_
              rintro e x7 ⟨⟨v7, rfl⟩, hr7, hk7⟩
              go_wp2_with fail
              go_end0
              exact ⟨rfl, by rw [HE.out]; exact hr7, (hK5.trans hk6).trans hk7⟩
            · rintro e x6 ⟨rfl, hr6, hk6⟩
              rw [tV] at HE
              clear tV
              go_wp2_with fail
              go_end0
              exact ⟨rfl, by rw [HE.out]; exact hr6, hK5.trans hk6⟩
          · rintro e x3 ⟨rfl, hr3, hk3⟩
            have hr3 : RS x3 b L ts (tl s') := hr3
            have hK3 := hK2.trans hk3
            clear hr2 hK2 hk3
            have hlt := ln_tl_lt s' 7 (by decide) tP
            have HE := hide (show unitWith (rRuleF f) s = mustT (rRuleF f (tl s')) (isK (rRuleF f (tl s')) 8) from by unfold unitWith; simp only [H0.out]; rw [TA.out, TI.out, tP]; rfl)
            clear tP TA TI
            have hl0 := ln_rNots 801 s
            rw [H0.out] at hl0
            have hc := ih x3 b L ts (tl s') (by omega) hr3
            clear hl0 hlt H0
            go_wp2_with fail
            refine hc.mono ?_
            clear hc
            rintro e x4 ⟨rfl, hr4, hk4⟩
            go_wp2_with fail
            refine (mustM x4 b L ts (rRuleF f (tl s')) 8 ⟨#[41]⟩ rfl (by decide) (by decide) hr4).mono ?_
            rintro e x5 ⟨rfl, hr5, hk5⟩
            go_wp2_with fail
            refine bodyPost_ret (v := .tuple #[]) (by simp [results, Tryz.results107, go_sem]) rfl ⟨rfl, by rw [HE.out]; exact hr5, (hK3.trans hk4).trans hk5⟩
        · rintro e x2 ⟨rfl, hr2, hk2⟩
          have hr2 : RS x2 b L ts (tl s') := hr2
          have HE := hide (show unitWith (rRuleF f) s = nmT (tl s') from by unfold unitWith; simp only [H0.out]; rw [TA.out, tI]; rfl)
          clear tI TA H0
          go_wp2_with fail
          refine (name_any x2 b L ts (tl s') hr2).mono ?_
          rintro e x3 ⟨rfl, hr3, hk3⟩
          go_wp2_with fail
          refine bodyPost_ret (v := .tuple #[]) (by simp [results, Tryz.results107, go_sem]) rfl ⟨rfl, by rw [HE.out]; exact hr3, (hK1.trans hk2).trans hk3⟩
      · rintro e x1 ⟨rfl, hr1, hk1⟩
        have HE := hide (show unitWith (rRuleF f) s = tl s' from by unfold unitWith; simp only [H0.out]; rw [tA]; rfl)
        clear tA H0
        go_wp2_with fail
        refine bodyPost_ret (v := .tuple #[]) (by simp [results, Tryz.results107, go_sem]) rfl ⟨rfl, by rw [HE.out]; exact hr1, hK0.trans hk1⟩
end Go.Proofs.YtpggfgjongkihaaGreat
namespace Go.Proofs.YtpggfgjongkihaaGreat
open Go.RowKit
set_option maxHeartbeats 1000000 in
set_option maxRecDepth 100000 in
theorem ruled_all : ∀ f, RuledAt f := by
  intro f
  induction f using Nat.strongRecOn with
  | _ f ih =>
    intro w b L ts s hl h
    have IH := hide ih
    clear ih
    go_enter Tryz.func71, Tryz.ntmps71
    go_wp2_with fail
    go_loopg [2, 3] (ln s) (fun k v2 v3 wr => ∃ s', ln s' ≤ k ∧ ln s' ≤ ln s ∧ RS wr b L ts s' ∧ Keep b w wr ∧ rRuleF f s = rRuleF (ln s') s')
    case atStart => exact ⟨s, Nat.le_refl _, Nat.le_refl _, h, Keep.refl _ _, rRuleF_fuel _ _ hl⟩
    case round =>
      clear h
      obtain ⟨s', hlk, hls, hr, hK, hrel⟩ := hrel
      have HM := hide hrel
      have c2 := hr.badc
      clear hrel
      cases hnn : s'.isNone
      · rw [hnn] at c2
        obtain ⟨n, s1, hn, hs1, hl1, hst⟩ := rRuleF_step s' hnn
        have hu := unit_any n (IH.out n (by omega)) wr b L ts s' (by omega) hr
        rw [← hs1] at hu
        have HST := hide hst
        clear hnn hst hs1 hr IH hn
        go_wp2_with fail
        refine hu.mono ?_
        clear hu
        rintro e w1 ⟨rfl, hr1, hk1⟩
        have hK1 := hK.trans hk1
        clear hK hk1 c2
        go_wp2_with fail
        refine (mayW w1 b L ts s1 ⟨#[97, 110, 100]⟩ hr1).mono ?_
        rw [show isW s1 ⟨#[97, 110, 100]⟩ = isW s1 bAnd from rfl]
        cases tA : isW s1 bAnd
        · rintro e w2 ⟨rfl, hr2, hk2⟩
          have hr2 : RS w2 b L ts s1 := hr2
          rw [tA] at HST
          clear tA
          go_wp2_with fail
          refine (mayW w2 b L ts s1 ⟨#[111, 114]⟩ hr2).mono ?_
          rw [show isW s1 ⟨#[111, 114]⟩ = isW s1 bOr from rfl]
          cases tO : isW s1 bOr
          · rintro e w3 ⟨rfl, hr3, hk3⟩
            have HE := hide (show rRuleF f s = s1 from by rw [HM.out, HST.out, tO]; rfl)
            clear tO
            go_wp2_with fail
            refine bodyPost_ret (v := .tuple #[]) (by simp [results, Tryz.results71, go_sem]) rfl ⟨rfl, by rw [HE.out]; exact hr3, (hK1.trans hk2).trans hk3⟩
          · rintro e w3 ⟨rfl, hr3, hk3⟩
            have HE := hide (show rRuleF f s = rRuleF (ln (tl s1)) (tl s1) from by rw [HM.out, HST.out, tO]; rfl)
            have h9 := ln_tl_le s1
            clear tO
            go_wp2_with fail
            go_roundg (ln (tl s1))
            case measure => omega
            case rel => exact ⟨tl s1, Nat.le_refl _, by omega, hr3, (hK1.trans hk2).trans hk3, HE.out⟩
        · rintro e w2 ⟨rfl, hr2, hk2⟩
          have HE := hide (show rRuleF f s = rRuleF (ln (tl s1)) (tl s1) from by rw [HM.out, HST.out, tA]; rfl)
          have h9 := ln_tl_le s1
          clear tA
          go_wp2_with fail
          go_roundg (ln (tl s1))
          case measure => omega
          case rel => exact ⟨tl s1, Nat.le_refl _, by omega, hr2, hK1.trans hk2, HE.out⟩
      · rw [hnn] at c2
        have HE := hide (show rRuleF f s = s' from by rw [HM.out, rRuleF_none s' hnn])
        clear hnn
        go_wp2_with fail
        go_end0
        exact ⟨rfl, by rw [HE.out]; exact hr, hK⟩
def rRule (s : St) : St := rRuleF 801 s
theorem ruled_any (w : World) (b : Nat) (L : Value) (ts : List Tk) (s : St) (h : RS w b L ts s) :
    Calls Tryz.prog 71 #[.pointer (some ⟨b, 0, none⟩)] w fun e w' => e = .returned (.tuple #[]) ∧ RS w' b L ts (rRule s) ∧ Keep b w w' := ruled_all 801 w b L ts s h.lnle h
def bRole : ByteArray := ofB [114, 111, 108, 101]
def bType : ByteArray := ofB [116, 121, 112, 101]
def bInterface : ByteArray := ofB [105, 110, 116, 101, 114, 102, 97, 99, 101]
def bUnion : ByteArray := ofB [117, 110, 105, 111, 110]
def kindB (x : ByteArray) : Bool := decide (x = bRole) || decide (x = bType) || decide (x = bInterface) || decide (x = bUnion)
theorem kindB_eq (x : ByteArray) : kindB x = ((x.toList == [114, 111, 108, 101]) || (x.toList == [116, 121, 112, 101]) || (x.toList == [105, 110, 116, 101, 114, 102, 97, 99, 101]) || (x.toList == [117, 110, 105, 111, 110])) := by
  rw [beq_lit, beq_lit, beq_lit, beq_lit]; rfl
set_option maxHeartbeats 1000000 in
theorem kind_any (x : ByteArray) (w : World) : Calls Tryz.prog 68 #[.string x] w fun e w' => e = .returned (.bool (kindB x)) ∧ w' = w := by
  have HQ := hide (kindB_eq x)
  cases t1 : (x.toList == [114, 111, 108, 101])
  · cases t2 : (x.toList == [116, 121, 112, 101])
    · cases t3 : (x.toList == [105, 110, 116, 101, 114, 102, 97, 99, 101])
      · cases t4 : (x.toList == [117, 110, 105, 111, 110])
        · go_enter Tryz.func68, Tryz.ntmps68
          go_wp2
          go_ret
          exact ⟨ret_bool (by rw [HQ.out, t1, t2, t3, t4]; rfl), rfl⟩
        · go_enter Tryz.func68, Tryz.ntmps68
          go_wp2
          go_ret
          exact ⟨ret_bool (by rw [HQ.out, t1, t2, t3, t4]; rfl), rfl⟩
      · go_enter Tryz.func68, Tryz.ntmps68
        go_wp2
        go_ret
        exact ⟨ret_bool (by rw [HQ.out, t1, t2, t3]; rfl), rfl⟩
    · go_enter Tryz.func68, Tryz.ntmps68
      go_wp2
      go_ret
      exact ⟨ret_bool (by rw [HQ.out, t1, t2]; rfl), rfl⟩
  · go_enter Tryz.func68, Tryz.ntmps68
    go_wp2
    go_ret
    exact ⟨ret_bool (by rw [HQ.out, t1]; rfl), rfl⟩
def doneS : St → Bool
  | some [] => true
  | _ => false
set_option maxHeartbeats 1000000 in
theorem done_bad (w : World) (b : Nat) (c2 : w.cell? ⟨b, 2, none⟩ = some (.bool true)) :
    Calls Tryz.prog 39 #[.pointer (some ⟨b, 0, none⟩)] w fun e w' => e = .returned (.bool false) ∧ Below w.heap.size w w' := by
  go_enter Tryz.func39, Tryz.ntmps39
  go_wp2_with fail
  go_quiet (fail)
  go_wp2_with fail
  go_ret
  exact ⟨rfl, by first | exact Below.refl _ _ | exact below_drewN (Below.refl _ _) _⟩
set_option maxHeartbeats 1000000 in
theorem done_at (w : World) (b : Nat) (A : Option Addr) (n cap a : Nat) (q : Bool) (hq : ((a : Int) == n) = q)
    (c0 : w.cell? ⟨b, 0, none⟩ = some (.slice A n cap)) (c1 : w.cell? ⟨b, 1, none⟩ = some (.int .i64 a)) (c2 : w.cell? ⟨b, 2, none⟩ = some (.bool false)) :
    Calls Tryz.prog 39 #[.pointer (some ⟨b, 0, none⟩)] w fun e w' => e = .returned (.bool q) ∧ Below w.heap.size w w' := by
  go_enter Tryz.func39, Tryz.ntmps39
  go_wp2_with fail
  go_quiet (fail)
  go_wp2_with fail
  go_ret
  exact ⟨rfl, by first | exact Below.refl _ _ | exact below_drewN (Below.refl _ _) _⟩
theorem done_any (w : World) (b : Nat) (L : Value) (ts : List Tk) (s : St) (h : RS w b L ts s) :
    Calls Tryz.prog 39 #[.pointer (some ⟨b, 0, none⟩)] w fun e w' => e = .returned (.bool (doneS s)) ∧ Below w.heap.size w w' := by
  obtain ⟨a, bad, h1, h2, h3⟩ := h.st
  have h4 := h.row
  have c0 := cell_of_block h1 0
  have c1 := cell_of_block h1 1
  have c2 := cell_of_block h1 2
  cases bad with
  | true => rw [h3]; exact done_bad w b c2
  | false =>
    simp only [Bool.false_eq_true, if_false] at h3
    obtain ⟨A, cap, rfl⟩ := own_slice h4
    refine done_at w b A ts.length cap a _ ?_ c0 c1 c2
    rw [h3]
    by_cases ha : a = ts.length
    · rw [List.drop_of_length_le (by omega)]; simp [doneS, ha]
    · rw [List.drop_eq_getElem_cons (by omega)]; simp only [doneS]; simp; omega
end Go.Proofs.YtpggfgjongkihaaGreat
namespace Go.Proofs.YtpggfgjongkihaaGreat
open Go.RowKit
def okNext (s : St) : Bool := isK s 1 && !kindB (hd s).s
def rIncF : Nat → St → List ByteArray × St
  | 0, s => ([], s)
  | f + 1, s => if s.isNone = true then ([], s) else
    let s1 := if kindB (nm s) = true then none else nmT s
    if okNext s1 = true then (nm s :: (rIncF f s1).1, (rIncF f s1).2) else ([nm s], s1)
structure RRole where
  name : ByteArray
  inc : List ByteArray
def rRole (s : St) : RRole × St :=
  if isK (nmT s) 9 = true then (⟨nm s, (rIncF 801 (tl (nmT s))).1⟩, (rIncF 801 (tl (nmT s))).2) else (⟨nm s, []⟩, nmT s)
def strsV (l : List ByteArray) : List Value := l.map Value.string
theorem strsV_snoc (l : List ByteArray) (x : ByteArray) : strsV (l ++ [x]) = strsV l ++ [.string x] := by simp [strsV]
theorem ln_inc1 (s : St) (h : s.isNone = false) : ln (if kindB (nm s) = true then none else nmT s) < ln s := by
  have := ln_nmT_lt s h
  split
  · simp [ln] at *; omega
  · exact this
theorem rIncF_fuel : ∀ (f : Nat) (s : St), ln s ≤ f → rIncF f s = rIncF (ln s) s := by
  intro f
  induction f using Nat.strongRecOn with
  | _ f ih =>
    intro s hl
    match f, s, hl with
    | f, none, hl =>
      match f with
      | 0 => rfl
      | f + 1 => rfl
    | 0, some l, hl => simp [ln] at hl
    | f + 1, some l, hl =>
      show rIncF (f + 1) (some l) = rIncF (l.length + 1) (some l)
      have hl' : l.length ≤ f := by simpa [ln] using hl
      have h1 : ln (some l) = l.length + 1 := rfl
      have h0 := ln_inc1 (some l) rfl
      simp only [rIncF]
      have e : rIncF f (if kindB (nm (some l)) = true then none else nmT (some l)) = rIncF l.length (if kindB (nm (some l)) = true then none else nmT (some l)) := by
        rw [ih f (by omega) _ (by omega)]
        by_cases e : l.length = f
        · rw [e, ih f (by omega) _ (by omega)]
        · rw [ih l.length (by omega) _ (by omega)]
      rw [e]
theorem rIncF_none (s : St) (h : s.isNone = true) : rIncF (ln s) s = ([], s) := by
  match s, h with
  | none, _ => rfl
theorem rIncF_some (s s1 : St) (h : s.isNone = false) (hs : s1 = if kindB (nm s) = true then none else nmT s) : rIncF (ln s) s = if okNext s1 = true then (nm s :: (rIncF (ln s1) s1).1, (rIncF (ln s1) s1).2) else ([nm s], s1) := by
  have h0 := ln_inc1 s h
  match s, h, h0 with
  | some l, h, h0 =>
    have h1 : ln (some l) = l.length + 1 := rfl
    rw [h1] at h0 ⊢
    rw [← hs] at h0
    rw [← rIncF_fuel l.length s1 (by omega)]
    subst hs
    rfl
theorem okNext_eq (s : St) : okNext s = (decide (rk (hd s).k = 1) && !kindB (rs (hd s))) := by
  unfold okNext isK
  by_cases h : (hd s).k = 1
  · have e1 : rk (hd s).k = 1 := (rk_one _).2 h
    have e2 : rs (hd s) = (hd s).s := by unfold rs; rw [if_pos (by omega)]
    rw [e1, e2, h]; rfl
  · have : ¬ rk (hd s).k = 1 := fun e => h ((rk_one _).1 e)
    rw [decide_eq_false this]; simp [h]
theorem Tryz.info9 : (Tryz.prog.info? 9).map (fun i => (i.zero, i.size, i.bytes)) = some (some (.string ⟨#[]⟩), 1, 16) := by kernel_rfl
theorem grown_at {w w' : World} {row : Option Nat} {F : Nat} {cs : Array Value} {T : TypeId} {fr : Nat × Nat} (hg : w.grownBy w' row) (hF : w.heap[F]? = some (.cells cs T fr)) (hr : row ≠ some F) : w'.heap[F]? = some (.cells cs T fr) := by
  rw [hg.block F (lt_of_block hF) (fun e => hr e.symm)]; exact hF
/-- a row's block is not one of another type -/
theorem own_ne {w : World} {base n size : Nat} {e : TypeId} {v : Value} {xs : List Value} {F : Nat} {cs : Array Value} {T : TypeId} {fr : Nat × Nat} (ho : w.ownsRow base e size v n xs) (hF : w.heap[F]? = some (.cells cs T fr)) (h : T ≠ e) : v.ownBlock ≠ some F := by
  rcases ho.2 with ⟨x, _⟩ | ⟨g, cap, cur, hv, hg, hh, r⟩
  · rw [x]; simp [Value.ownBlock]
  · rw [hv]; simp only [Value.ownBlock]; intro q; cases q; rw [hF] at hh; cases hh; exact h rfl

theorem ownsRow_set2 {w : World} {base n size N : Nat} {e : TypeId} {v : Value} {xs : List Value} {cs : Array Value} {T : TypeId} {fr : Nat × Nat} (ho : w.ownsRow base e size v n xs) (hN : w.heap[N]? = some (.cells cs T fr)) (h : T ≠ e) (x y : Value) : ((w.setCell ⟨N, 0, none⟩ x).setCell ⟨N, 1, none⟩ y).ownsRow base e size v n xs :=
  ownsRow_keep ho (((Keep.refl N w).setCell 0 x).setCell 1 y) hN h
set_option maxHeartbeats 2000000 in
set_option maxRecDepth 100000 in
theorem role_any (w : World) (b : Nat) (L : Value) (ts : List Tk) (s : St) (h : RS w b L ts s) :
    Calls Tryz.prog 35 #[.pointer (some ⟨b, 0, none⟩)] w fun e w' => ∃ v, e = .returned (.agg #[.string (rRole s).1.name, v]) ∧ w'.ownsRow w.heap.size 9 1 v (rRole s).1.inc.length (strsV (rRole s).1.inc) ∧ (rRole s).1.inc.length ≤ 801 ∧ RS w' b L ts (rRole s).2 ∧ Keep b w w' := by
  obtain ⟨i0, hi, hz0, hz1, hz2⟩ := info_parts Tryz.info9
  have hlt := h.lt
  have hr0 : RS ((w.alloc (.cells #[.string ⟨#[]⟩, .slice none 0 0] 92)).alloc (.cells #[.string ⟨#[]⟩, .slice none 0 0] 92)) b L ts s := h.below (two_below _ _ _)
  have HR0 := hide (two_R w (.cells #[.string ⟨#[]⟩, .slice none 0 0] 92) (.cells #[.string ⟨#[]⟩, .slice none 0 0] 92))
  have HF0 := hide (two_F w (.cells #[.string ⟨#[]⟩, .slice none 0 0] 92) (.cells #[.string ⟨#[]⟩, .slice none 0 0] 92))
  have hK0 : Keep b w ((w.alloc (.cells #[.string ⟨#[]⟩, .slice none 0 0] 92)).alloc (.cells #[.string ⟨#[]⟩, .slice none 0 0] 92)) := Keep.of_below (two_below _ _ _)
  clear h
  go_enter Tryz.func35, Tryz.ntmps35
  go_wp2_with fail
  generalize (w.alloc (.cells #[.string ⟨#[]⟩, .slice none 0 0] 92)).alloc (.cells #[.string ⟨#[]⟩, .slice none 0 0] 92) = w0 at *
  refine (name_any w0 b L ts s hr0).mono ?_
  rintro e w1 ⟨rfl, hr1, hk1⟩
  have HF1 := hide (hk1.at HF0.out (by omega))
  have HR1 := hide (hk1.at HR0.out (by omega))
  have hK1 := hK0.trans hk1
  clear HF0 HR0 hK0 hr0 hk1
  have c0 : w1.cell? ⟨w.heap.size + 1, 0, none⟩ = some (.string ⟨#[]⟩) := cell_of_block HF1.out 0
  have cf := frozen_of_block HF1.out 0
  go_wp2_with fail
  have hr2 := hr1.set HF1.out (by decide) (by decide) 0 (.string (nm s))
  have HF2 := hide (show (w1.setCell ⟨w.heap.size + 1, 0, none⟩ (.string (nm s))).heap[w.heap.size + 1]? = some (.cells #[.string (nm s), .slice none 0 0] 92 (0, 0)) from setCell_block HF1.out 0 _)
  have HR2 := hide (set_other_at HR1.out (show w.heap.size ≠ w.heap.size + 1 by omega) 0 (.string (nm s)))
  have hK2 := hK1.setNew ⟨w.heap.size + 1, 0, none⟩ (by simp) (.string (nm s))
  clear c0 cf HF1 HR1 hK1 hr1
  generalize w1.setCell ⟨w.heap.size + 1, 0, none⟩ (.string (nm s)) = w2 at *
  refine (mayM w2 b L ts (nmT s) 9 ⟨#[58]⟩ rfl (by decide) (by decide) hr2).mono ?_
  rintro e w3 ⟨rfl, hr3, hk3⟩
  have HF3 := hide (hk3.at HF2.out (by omega))
  have HR3 := hide (hk3.at HR2.out (by omega))
  have hK3 := hK2.trans hk3
  have hln := hr3.lnle
  clear HF2 HR2 hK2 hr2 hk3
  have H0 := hide (show rRole s = if isK (nmT s) 9 = true then (⟨nm s, (rIncF 801 (tl (nmT s))).1⟩, (rIncF 801 (tl (nmT s))).2) else (⟨nm s, []⟩, nmT s) from rfl)
  generalize isK (nmT s) 9 = ok0 at *
  go_wp2_with fail
  go_loopg [4, 5, 6, 7] (ln (mayT (nmT s) ok0)) (fun k v4 v5 v6 v7 wr => ∃ (ok : Bool) (inc : List ByteArray) (vI : Value) (s' : St), v4 = .bool ok ∧ ln s' ≤ k ∧ RS wr b L ts s' ∧ wr.heap[w.heap.size + 1]? = some (.cells #[.string (nm s), vI] 92 (0, 0)) ∧ wr.heap[w.heap.size]? = some (.cells #[.string ⟨#[]⟩, .slice none 0 0] 92) ∧ wr.ownsRow (w.heap.size + 2) 9 1 vI inc.length (strsV inc) ∧ inc.length + ln s' ≤ 801 ∧ Keep b w wr ∧ rRole s = if ok = true then (⟨nm s, inc ++ (rIncF (ln s') s').1⟩, (rIncF (ln s') s').2) else (⟨nm s, inc⟩, s'))
  case atStart => exact ⟨ok0, [], _, _, rfl, Nat.le_refl _, hr3, HF3.out, HR3.out, World.ownsRow_nil _ _ _ _, by simpa using hln, hK3, by
    rw [H0.out]
    cases ok0
    · rfl
    · simp only [if_true, List.nil_append, mayT]; rw [rIncF_fuel 801 _ (by simpa [mayT] using hln)]⟩
  case round =>
    clear HF3 HR3 hK3 hr3 hln H0
    obtain ⟨ok, inc, vI, s', rfl, hlk, hr, hF, hR, hown, hil, hK, hrel⟩ := hrel
    have HF := hide hF
    have HR := hide hR
    have HM := hide hrel
    have c2 := hr.badc
    have hF1 := hF
    have hR1 := hR
    have hown1 := hown
    have hK1 := hK
    clear hrel hF hR
    obtain ⟨aI, capI, hvI⟩ := own_slice hown
    subst hvI
    cases ok
    · have HRES := hide (show rRole s = (⟨nm s, inc⟩, s') from HM.out)
      have p0 : wr.cell? ⟨w.heap.size + 1, 0, none⟩ = some (.string (nm s)) := cell_of_block hF1 0
      have p1 : wr.cell? ⟨w.heap.size + 1, 1, none⟩ = some (.slice aI inc.length capI) := cell_of_block hF1 1
      have r0 : wr.cell? ⟨w.heap.size, 0, none⟩ = some (.string ⟨#[]⟩) := cell_of_block hR1 0
      have r1 : wr.cell? ⟨w.heap.size, 1, none⟩ = some (.slice none 0 0) := cell_of_block hR1 1
      have rf : ∀ j, wr.frozen? ⟨w.heap.size, j, none⟩ = false := fun j => frozen_of_block hR1 j
      have HZ1 := hide ((hr.set hR1 (by decide) (by decide) 0 (.string (nm s))).set (setCell_block hR1 0 _) (by decide) (by decide) 1 (.slice aI inc.length capI))
      have HZ2 := hide ((hK1.setNew ⟨w.heap.size, 0, none⟩ (Nat.le_refl _) (.string (nm s))).setNew ⟨w.heap.size, 1, none⟩ (Nat.le_refl _) (.slice aI inc.length capI))
      have HZ3 := hide (ownsRow_set2 hown1 hR1 (by decide) (.string (nm s)) (.slice aI inc.length capI))
      clear hF1 hR1
      go_wp2_with fail
      refine bodyPost_ret (v := .agg #[.string (nm s), .slice aI inc.length capI]) (by simp [results, Tryz.results35, go_sem, r0, r1]) rfl ⟨_, by rw [HRES.out], ?_, by rw [HRES.out]; simp only; omega, by rw [HRES.out]; exact HZ1.out, HZ2.out⟩
      rw [HRES.out]; exact ownsRow_lower HZ3.out (by omega)
    · cases hnn : s'.isNone
      · rw [hnn] at c2
        clear hF1 hR1 hown1 hK1
        have hl1 := ln_inc1 s' hnn
        have hln1 := ln_nmT_lt s' hnn
        have HST := hide (rIncF_some s' _ hnn rfl)
        clear hnn
        go_wp2_with fail
        refine (name_any wr b L ts s' hr).mono ?_
        rintro e x1 ⟨rfl, hr1, hk1⟩
        have HF1 := hide (hk1.at HF.out (by omega))
        have HR1 := hide (hk1.at HR.out (by omega))
        have hK1 := hK.trans hk1
        obtain ⟨a0, bad0, q1, _, _⟩ := hr.st
        have hown1 := ownsRow_keep hown hk1 q1 (by decide)
        clear HF HR hK hr hk1 q1 hown c2
        generalize nm s' = y at *
        go_wp2_with fail
        refine (kind_any y _).mono ?_
        rintro e x1' ⟨rfl, hx1⟩
        have hx1 := hx1.symm
        subst hx1
        go_upto_if 26 with fail
        go_cut [6] (fun v6 wc => ∃ s1, s1 = (if kindB y = true then none else nmT s') ∧ RS wc b L ts s1 ∧ wc.heap[w.heap.size + 1]? = some (.cells #[.string (nm s), .slice aI inc.length capI] 92 (0, 0)) ∧ wc.heap[w.heap.size]? = some (.cells #[.string ⟨#[]⟩, .slice none 0 0] 92) ∧ wc.ownsRow (w.heap.size + 2) 9 1 (.slice aI inc.length capI) inc.length (strsV inc) ∧ Keep b w wc)
        case first =>
          cases tk : kindB y
          · go_wp2_with fail
            go_meet
            exact ⟨nmT s', by rw [tk]; rfl, hr1, HF1.out, HR1.out, hown1, hK1⟩
          · obtain ⟨⟨q, cq⟩, fq, hn⟩ := hr1.fail
            have hF2 := set_other_at HF1.out (show w.heap.size + 1 ≠ b by omega) 2 (.bool true)
            have hR2 := set_other_at HR1.out (show w.heap.size ≠ b by omega) 2 (.bool true)
            obtain ⟨a0, bad0, q1, _, _⟩ := hr1.st
            have hown2 := ownsRow_keep hown1 ((Keep.refl b x1).setCell 2 (.bool true)) q1 (by decide)
            have HX := hide (And.intro hn (And.intro hF2 (And.intro hR2 (And.intro hown2 (hK1.setCell 2 (.bool true))))))
            clear hn hF2 hR2 q1 hown2
            go_wp2_with fail
            go_meet
            exact ⟨none, by rw [tk]; rfl, HX.out.1, HX.out.2.1, HX.out.2.2.1, HX.out.2.2.2.1, HX.out.2.2.2.2⟩
        case rest =>
          clear HF1 HR1 hK1 hr1 hown1
          obtain ⟨s1, hs1, hr2, hF2, hR2, hown2, hK2⟩ := hcut
          rw [← hs1] at HST hl1
          have HS1 := hide hs1
          clear hs1
          have HF2 := hide hF2
          have HR2 := hide hR2
          have c1 : wc.cell? ⟨w.heap.size + 1, 1, none⟩ = some (.slice aI inc.length capI) := cell_of_block hF2 1
          have cf1 := frozen_of_block hF2 1
          have hne := own_ne hown2 hF2 (by decide)
          have hne2 := own_ne hown2 hR2 (by decide)
          have hap := hr2.apart hown2 (by decide) (by decide)
          have hlow := hown2.lt
          have hszc := lt_of_block hF2
          clear hF2 hR2
          go_wp2_with (at_builtin; refine wpList_append_own _ rfl _ _ 50 rfl (w.heap.size + 2) 9 i0 _ 1 16 Tryz.underlying50 hi hz0 hz1 hz2 rfl (by decide) _ _ _ rfl (hown2.alloc _) ⟨wc.heap.size, 0, none⟩ 1 1 [.string y] rfl rfl (cell_one_new _ _ _) (fun u hu => by simp at hu; subst hu; rfl) (by unfold maxLen; omega) (by omega) (by simp; omega) ?_; intro v' x3 hown' hgrow _; obtain ⟨a', cap', hv'⟩ := own_slice hown'; subst hv'; have hF3 := grown_at hgrow (show (wc.alloc _).heap[w.heap.size + 1]? = _ from (alloc_other _ _ _ hszc).trans HF2.out) hne; have hc3 := (cell_of_block hF3 1 : x3.cell? ⟨w.heap.size + 1, 1, none⟩ = some (.slice aI inc.length capI)); have hf3 := frozen_of_block hF3 1; have HF3 := hide hF3; clear hF3)
          have hr3 := hr2.grown1 hgrow hap
          have HR3 := hide (grown_at hgrow (show (wc.alloc _).heap[w.heap.size]? = _ from (alloc_other _ _ _ (by omega)).trans HR2.out) hne2)
          have hK3 : Keep b w x3 := (hK2.alloc _).grown hgrow (fun k hk => by have := (hlow k hk).1; omega)
          have hr4 := hr3.set HF3.out (by decide) (by decide) 1 (.slice a' (inc.length + 1) cap')
          have HF4 := hide (show (x3.setCell ⟨w.heap.size + 1, 1, none⟩ (.slice a' (inc.length + 1) cap')).heap[w.heap.size + 1]? = some (.cells #[.string (nm s), .slice a' (inc.length + 1) cap'] 92 (0, 0)) from setCell_block HF3.out 1 _)
          have HR4 := hide (set_other_at HR3.out (show w.heap.size ≠ w.heap.size + 1 by omega) 1 (.slice a' (inc.length + 1) cap'))
          have hK4 := hK3.setNew ⟨w.heap.size + 1, 1, none⟩ (by simp) (.slice a' (inc.length + 1) cap')
          have hown4 := ownsRow_keep hown' ((Keep.refl (w.heap.size + 1) x3).setCell 1 (.slice a' (inc.length + 1) cap')) HF3.out (by decide)
          clear hc3 hf3 HF3 HR3 hr3 hK3 hown' hgrow hK2 hown2 hr2 HF2 HR2 c1 cf1 hne hne2 hap hlow hszc
          generalize x3.setCell ⟨w.heap.size + 1, 1, none⟩ (.slice a' (inc.length + 1) cap') = x4 at *
          have HOK := hide (okNext_eq s1)
          have hp := peek_any x4 b L ts s1 hr4
          generalize rk (hd s1).k = k1 at *
          generalize rs (hd s1) = z at *
          generalize (hd s1).n = n1 at *
          refine hp.mono ?_
          clear hp
          rintro e x5 ⟨rfl, hb5⟩
          have hr5 := hr4.below hb5
          have HF5 := hide ((hb5.block _ (lt_of_block HF4.out)).trans HF4.out)
          have HR5 := hide ((hb5.block _ (lt_of_block HR4.out)).trans HR4.out)
          have hK5 := hK4.trans (Keep.of_below hb5)
          have hown5 := ownsRow_below hown4 hb5
          clear hr4 HF4 HR4 hK4 hown4 hb5
          go_wp2_with fail
          refine (kind_any z _).mono ?_
          rintro e x6 ⟨rfl, hx6⟩
          have hr6 := hr5.below ((Below.refl _ _).alloc (Nat.le_refl _) (.cells #[.int .i64 k1, .string z, .int .i64 n1] 137))
          have HF6 := hide ((alloc_other x5 (.cells #[.int .i64 k1, .string z, .int .i64 n1] 137) _ (lt_of_block HF5.out)).trans HF5.out)
          have HR6 := hide ((alloc_other x5 (.cells #[.int .i64 k1, .string z, .int .i64 n1] 137) _ (lt_of_block HR5.out)).trans HR5.out)
          have hK6 := hK5.alloc (.cells #[.int .i64 k1, .string z, .int .i64 n1] 137)
          have hown6 := hown5.alloc (.cells #[.int .i64 k1, .string z, .int .i64 n1] 137)
          rw [hx6]
          have HL := hide (show rRole s = if okNext s1 = true then (⟨nm s, (inc ++ [y]) ++ (rIncF (ln s1) s1).1⟩, (rIncF (ln s1) s1).2) else (⟨nm s, inc ++ [y]⟩, s1) from by
            rw [HM.out, HST.out]; simp only [if_true]; split <;> simp)
          clear hr5 HF5 HR5 hK5 hown5 hx6 HM HST HS1
          by_cases e1 : k1 = 1
          · have t1 : ((k1 : Int) == 1) = true := by simp; omega
            have HO := hide (show okNext s1 = !kindB z from by rw [HOK.out, e1]; rfl)
            clear e1
            cases tz : kindB z
            · go_wp2_with fail
              go_roundg (ln s1)
              case measure => omega
              case rel => exact ⟨true, inc ++ [y], _, s1, rfl, Nat.le_refl _, hr6, HF6.out, HR6.out, by simpa [strsV] using hown6, by simp; omega, hK6, by rw [HL.out, HO.out, tz]; rfl⟩
            · go_wp2_with fail
              go_roundg (ln s1)
              case measure => omega
              case rel => exact ⟨false, inc ++ [y], _, s1, rfl, Nat.le_refl _, hr6, HF6.out, HR6.out, by simpa [strsV] using hown6, by simp; omega, hK6, by rw [HL.out, HO.out, tz]; rfl⟩
          · have t1 : ((k1 : Int) == 1) = false := by simp; omega
            have HO := hide (show okNext s1 = false from by rw [HOK.out, decide_eq_false e1]; rfl)
            clear e1
            go_wp2_with fail
            go_roundg (ln s1)
            case measure => omega
            case rel => exact ⟨false, inc ++ [y], _, s1, rfl, Nat.le_refl _, hr6, HF6.out, HR6.out, by simpa [strsV] using hown6, by simp; omega, hK6, by rw [HL.out, HO.out]⟩
      · rw [hnn] at c2
        have HRES := hide (show rRole s = (⟨nm s, inc⟩, s') from by rw [HM.out, rIncF_none s' hnn]; simp)
        clear hnn
        have p0 : wr.cell? ⟨w.heap.size + 1, 0, none⟩ = some (.string (nm s)) := cell_of_block hF1 0
        have p1 : wr.cell? ⟨w.heap.size + 1, 1, none⟩ = some (.slice aI inc.length capI) := cell_of_block hF1 1
        have r0 : wr.cell? ⟨w.heap.size, 0, none⟩ = some (.string ⟨#[]⟩) := cell_of_block hR1 0
        have r1 : wr.cell? ⟨w.heap.size, 1, none⟩ = some (.slice none 0 0) := cell_of_block hR1 1
        have rf : ∀ j, wr.frozen? ⟨w.heap.size, j, none⟩ = false := fun j => frozen_of_block hR1 j
        have HZ1 := hide ((hr.set hR1 (by decide) (by decide) 0 (.string (nm s))).set (setCell_block hR1 0 _) (by decide) (by decide) 1 (.slice aI inc.length capI))
        have HZ2 := hide ((hK1.setNew ⟨w.heap.size, 0, none⟩ (Nat.le_refl _) (.string (nm s))).setNew ⟨w.heap.size, 1, none⟩ (Nat.le_refl _) (.slice aI inc.length capI))
        have HZ3 := hide (ownsRow_set2 hown1 hR1 (by decide) (.string (nm s)) (.slice aI inc.length capI))
        clear hF1 hR1
        go_wp2_with fail
        refine bodyPost_ret (v := .agg #[.string (nm s), .slice aI inc.length capI]) (by simp [results, Tryz.results35, go_sem, r0, r1]) rfl ⟨_, by rw [HRES.out], ?_, by rw [HRES.out]; simp only; omega, by rw [HRES.out]; exact HZ1.out, HZ2.out⟩
        rw [HRES.out]; exact ownsRow_lower HZ3.out (by omega)
end Go.Proofs.YtpggfgjongkihaaGreat
namespace Go.Proofs.YtpggfgjongkihaaGreat
open Go.RowKit
structure RDef where
  sort : Nat
  name : ByteArray
  fields : List RFld
  above : List ByteArray
  ruled : Bool
  rule : List Tk
def rMemF : Nat → St → List ByteArray × St
  | 0, s => ([], s)
  | f + 1, s => if s.isNone = true then ([], s) else
    if isK (nmT s) 16 = true then (nm s :: (rMemF f (tl (nmT s))).1, (rMemF f (tl (nmT s))).2) else ([nm s], nmT s)
def rUnion (s : St) : RDef × St :=
  let s2 := mustT (nmT s) (isK (nmT s) 10)
  (⟨2, nm s, [], (rMemF 801 s2).1, false, []⟩, (rMemF 801 s2).2)
theorem ln_mem (s : St) (h : s.isNone = false) : ln (tl (nmT s)) < ln s := by
  have := ln_nmT_lt s h
  have := ln_tl_le (nmT s)
  omega
theorem rMemF_fuel : ∀ (f : Nat) (s : St), ln s ≤ f → rMemF f s = rMemF (ln s) s := by
  intro f
  induction f using Nat.strongRecOn with
  | _ f ih =>
    intro s hl
    match f, s, hl with
    | f, none, hl =>
      match f with
      | 0 => rfl
      | f + 1 => rfl
    | 0, some l, hl => simp [ln] at hl
    | f + 1, some l, hl =>
      show rMemF (f + 1) (some l) = rMemF (l.length + 1) (some l)
      have hl' : l.length ≤ f := by simpa [ln] using hl
      have h1 : ln (some l) = l.length + 1 := rfl
      have h0 := ln_mem (some l) rfl
      simp only [rMemF]
      have e : rMemF f (tl (nmT (some l))) = rMemF l.length (tl (nmT (some l))) := by
        rw [ih f (by omega) _ (by omega)]
        by_cases e : l.length = f
        · rw [e, ih f (by omega) _ (by omega)]
        · rw [ih l.length (by omega) _ (by omega)]
      rw [e]
theorem rMemF_none (s : St) (h : s.isNone = true) : rMemF (ln s) s = ([], s) := by
  match s, h with
  | none, _ => rfl
theorem rMemF_some (s : St) (h : s.isNone = false) : rMemF (ln s) s = if isK (nmT s) 16 = true then (nm s :: (rMemF (ln (tl (nmT s))) (tl (nmT s))).1, (rMemF (ln (tl (nmT s))) (tl (nmT s))).2) else ([nm s], nmT s) := by
  have h0 := ln_mem s h
  match s, h, h0 with
  | some l, h, h0 =>
    have h1 : ln (some l) = l.length + 1 := rfl
    rw [h1] at h0 ⊢
    rw [← rMemF_fuel l.length _ (by omega)]
    rfl
theorem ownsRow_set6 {w : World} {base n size N : Nat} {e : TypeId} {v : Value} {xs : List Value} {cs : Array Value} {T : TypeId} {fr : Nat × Nat} (ho : w.ownsRow base e size v n xs) (hN : w.heap[N]? = some (.cells cs T fr)) (h : T ≠ e) (x0 x1 x2 x3 x4 x5 : Value) : ((((((w.setCell ⟨N, 0, none⟩ x0).setCell ⟨N, 1, none⟩ x1).setCell ⟨N, 2, none⟩ x2).setCell ⟨N, 3, none⟩ x3).setCell ⟨N, 4, none⟩ x4).setCell ⟨N, 5, none⟩ x5).ownsRow base e size v n xs :=
  ownsRow_keep ho (((((((Keep.refl N w).setCell 0 x0).setCell 1 x1).setCell 2 x2).setCell 3 x3).setCell 4 x4).setCell 5 x5) hN h
theorem keep_set6 {b : Nat} {w y : World} {N : Nat} (h : Keep b w y) (hN : w.heap.size ≤ N) (x0 x1 x2 x3 x4 x5 : Value) : Keep b w ((((((y.setCell ⟨N, 0, none⟩ x0).setCell ⟨N, 1, none⟩ x1).setCell ⟨N, 2, none⟩ x2).setCell ⟨N, 3, none⟩ x3).setCell ⟨N, 4, none⟩ x4).setCell ⟨N, 5, none⟩ x5) :=
  (((((h.setNew _ hN _).setNew _ hN _).setNew _ hN _).setNew _ hN _).setNew _ hN _).setNew _ hN _
theorem RS.set6 {w : World} {b : Nat} {L : Value} {ts : List Tk} {s : St} {N : Nat} {cs : Array Value} {T : TypeId} {fr : Nat × Nat} (h : RS w b L ts s) (hN : w.heap[N]? = some (.cells cs T fr)) (h1 : T ≠ 89) (h2 : T ≠ 137) (x0 x1 x2 x3 x4 x5 : Value) : RS ((((((w.setCell ⟨N, 0, none⟩ x0).setCell ⟨N, 1, none⟩ x1).setCell ⟨N, 2, none⟩ x2).setCell ⟨N, 3, none⟩ x3).setCell ⟨N, 4, none⟩ x4).setCell ⟨N, 5, none⟩ x5) b L ts s :=
  (((((h.set hN h1 h2 0 x0).set (setCell_block hN 0 _) h1 h2 1 x1).set (setCell_block (setCell_block hN 0 _) 1 _) h1 h2 2 x2).set (setCell_block (setCell_block (setCell_block hN 0 _) 1 _) 2 _) h1 h2 3 x3).set (setCell_block (setCell_block (setCell_block (setCell_block hN 0 _) 1 _) 2 _) 3 _) h1 h2 4 x4).set (setCell_block (setCell_block (setCell_block (setCell_block (setCell_block hN 0 _) 1 _) 2 _) 3 _) 4 _) h1 h2 5 x5

set_option maxHeartbeats 2000000 in
set_option maxRecDepth 100000 in
theorem union_any (w : World) (b : Nat) (L : Value) (ts : List Tk) (s : St) (h : RS w b L ts s) :
    Calls Tryz.prog 38 #[.pointer (some ⟨b, 0, none⟩)] w fun e w' => ∃ v, e = .returned (.agg #[.int .i64 2, .string (rUnion s).1.name, .slice none 0 0, v, .bool false, .slice none 0 0]) ∧ w'.ownsRow w.heap.size 9 1 v (rUnion s).1.above.length (strsV (rUnion s).1.above) ∧ (rUnion s).1.above.length ≤ 801 ∧ RS w' b L ts (rUnion s).2 ∧ Keep b w w' := by
  obtain ⟨i0, hi, hz0, hz1, hz2⟩ := info_parts Tryz.info9
  have hlt := h.lt
  have hr0 : RS ((w.alloc (.cells #[.int .i64 0, .string ⟨#[]⟩, .slice none 0 0, .slice none 0 0, .bool false, .slice none 0 0] 96)).alloc (.cells #[.int .i64 2, .string ⟨#[]⟩, .slice none 0 0, .slice none 0 0, .bool false, .slice none 0 0] 96)) b L ts s := h.below (two_below _ _ _)
  have HR0 := hide (two_R w (.cells #[.int .i64 0, .string ⟨#[]⟩, .slice none 0 0, .slice none 0 0, .bool false, .slice none 0 0] 96) (.cells #[.int .i64 2, .string ⟨#[]⟩, .slice none 0 0, .slice none 0 0, .bool false, .slice none 0 0] 96))
  have HF0 := hide (two_F w (.cells #[.int .i64 0, .string ⟨#[]⟩, .slice none 0 0, .slice none 0 0, .bool false, .slice none 0 0] 96) (.cells #[.int .i64 2, .string ⟨#[]⟩, .slice none 0 0, .slice none 0 0, .bool false, .slice none 0 0] 96))
  have hK0 : Keep b w ((w.alloc (.cells #[.int .i64 0, .string ⟨#[]⟩, .slice none 0 0, .slice none 0 0, .bool false, .slice none 0 0] 96)).alloc (.cells #[.int .i64 2, .string ⟨#[]⟩, .slice none 0 0, .slice none 0 0, .bool false, .slice none 0 0] 96)) := Keep.of_below (two_below _ _ _)
  clear h
  go_enter Tryz.func38, Tryz.ntmps38
  go_wp2_with fail
  generalize (w.alloc (.cells #[.int .i64 0, .string ⟨#[]⟩, .slice none 0 0, .slice none 0 0, .bool false, .slice none 0 0] 96)).alloc (.cells #[.int .i64 2, .string ⟨#[]⟩, .slice none 0 0, .slice none 0 0, .bool false, .slice none 0 0] 96) = w0 at *
  refine (name_any w0 b L ts s hr0).mono ?_
  rintro e w1 ⟨rfl, hr1, hk1⟩
  have HF1 := hide (hk1.at HF0.out (by omega))
  have HR1 := hide (hk1.at HR0.out (by omega))
  have hK1 := hK0.trans hk1
  clear HF0 HR0 hK0 hr0 hk1
  have c0 : w1.cell? ⟨w.heap.size + 1, 1, none⟩ = some (.string ⟨#[]⟩) := cell_of_block HF1.out 1
  have cf := frozen_of_block HF1.out 1
  go_wp2_with fail
  have hr2 := hr1.set HF1.out (by decide) (by decide) 1 (.string (nm s))
  have HF2 := hide (show (w1.setCell ⟨w.heap.size + 1, 1, none⟩ (.string (nm s))).heap[w.heap.size + 1]? = some (.cells #[.int .i64 2, .string (nm s), .slice none 0 0, .slice none 0 0, .bool false, .slice none 0 0] 96 (0, 0)) from setCell_block HF1.out 1 _)
  have HR2 := hide (set_other_at HR1.out (show w.heap.size ≠ w.heap.size + 1 by omega) 1 (.string (nm s)))
  have hK2 := hK1.setNew ⟨w.heap.size + 1, 1, none⟩ (by simp) (.string (nm s))
  clear c0 cf HF1 HR1 hK1 hr1
  generalize w1.setCell ⟨w.heap.size + 1, 1, none⟩ (.string (nm s)) = w2 at *
  refine (mustM w2 b L ts (nmT s) 10 ⟨#[61]⟩ rfl (by decide) (by decide) hr2).mono ?_
  rintro e w3 ⟨rfl, hr3, hk3⟩
  have HF3 := hide (hk3.at HF2.out (by omega))
  have HR3 := hide (hk3.at HR2.out (by omega))
  have hK3 := hK2.trans hk3
  have hln := hr3.lnle
  clear HF2 HR2 hK2 hr2 hk3
  have H0 := hide (show rUnion s = (⟨2, nm s, [], (rMemF 801 (mustT (nmT s) (isK (nmT s) 10))).1, false, []⟩, (rMemF 801 (mustT (nmT s) (isK (nmT s) 10))).2) from rfl)
  generalize mustT (nmT s) (isK (nmT s) 10) = s2 at *
  go_wp2_with fail
  go_loopg [4, 5] (ln s2) (fun k v4 v5 wr => ∃ (inc : List ByteArray) (vI : Value) (s' : St), ln s' ≤ k ∧ RS wr b L ts s' ∧ wr.heap[w.heap.size + 1]? = some (.cells #[.int .i64 2, .string (nm s), .slice none 0 0, vI, .bool false, .slice none 0 0] 96 (0, 0)) ∧ wr.heap[w.heap.size]? = some (.cells #[.int .i64 0, .string ⟨#[]⟩, .slice none 0 0, .slice none 0 0, .bool false, .slice none 0 0] 96) ∧ wr.ownsRow (w.heap.size + 2) 9 1 vI inc.length (strsV inc) ∧ inc.length + ln s' ≤ 801 ∧ Keep b w wr ∧ rUnion s = (⟨2, nm s, [], inc ++ (rMemF (ln s') s').1, false, []⟩, (rMemF (ln s') s').2))
  case atStart => exact ⟨[], _, _, Nat.le_refl _, hr3, HF3.out, HR3.out, World.ownsRow_nil _ _ _ _, by simpa using hln, hK3, by rw [H0.out, rMemF_fuel 801 _ hln]; simp⟩
  case round =>
    clear HF3 HR3 hK3 hr3 hln H0
    obtain ⟨inc, vI, s', hlk, hr, hF, hR, hown, hil, hK, hrel⟩ := hrel
    have HF := hide hF
    have HR := hide hR
    have HM := hide hrel
    have c2 := hr.badc
    have hF1 := hF
    have hR1 := hR
    have hown1 := hown
    have hK1 := hK
    clear hrel hF hR
    obtain ⟨aI, capI, hvI⟩ := own_slice hown
    subst hvI
    cases hnn : s'.isNone
    · rw [hnn] at c2
      clear hF1 hR1 hown1 hK1
      have hl1 := ln_mem s' hnn
      have hl2 := ln_nmT_lt s' hnn
      have HST := hide (rMemF_some s' hnn)
      clear hnn
      go_wp2_with fail
      refine (name_any wr b L ts s' hr).mono ?_
      rintro e wc ⟨rfl, hr2, hk1⟩
      have hF2 := hk1.at HF.out (by omega)
      have hR2 := hk1.at HR.out (by omega)
      have hK2 := hK.trans hk1
      obtain ⟨a0, bad0, q1, _, _⟩ := hr.st
      have hown2 := ownsRow_keep hown hk1 q1 (by decide)
      clear HF HR hK hr hk1 q1 hown c2
      generalize nm s' = y at *
      have HF2 := hide hF2
      have HR2 := hide hR2
      have c1 : wc.cell? ⟨w.heap.size + 1, 3, none⟩ = some (.slice aI inc.length capI) := cell_of_block hF2 3
      have cf1 := frozen_of_block hF2 3
      have hne := own_ne hown2 hF2 (by decide)
      have hne2 := own_ne hown2 hR2 (by decide)
      have hap := hr2.apart hown2 (by decide) (by decide)
      have hlow := hown2.lt
      have hszc := lt_of_block hF2
      clear hF2 hR2
      go_wp2_with (at_builtin; refine wpList_append_own _ rfl _ _ 50 rfl (w.heap.size + 2) 9 i0 _ 1 16 Tryz.underlying50 hi hz0 hz1 hz2 rfl (by decide) _ _ _ rfl (hown2.alloc _) ⟨wc.heap.size, 0, none⟩ 1 1 [.string y] rfl rfl (cell_one_new _ _ _) (fun u hu => by simp at hu; subst hu; rfl) (by unfold maxLen; omega) (by omega) (by simp; omega) ?_; intro v' x3 hown' hgrow _; obtain ⟨a', cap', hv'⟩ := own_slice hown'; subst hv'; have hF3 := grown_at hgrow (show (wc.alloc _).heap[w.heap.size + 1]? = _ from (alloc_other _ _ _ hszc).trans HF2.out) hne; have hc3 := (cell_of_block hF3 3 : x3.cell? ⟨w.heap.size + 1, 3, none⟩ = some (.slice aI inc.length capI)); have hf3 := frozen_of_block hF3 3; have HF3 := hide hF3; clear hF3)
      have hr3 := hr2.grown1 hgrow hap
      have HR3 := hide (grown_at hgrow (show (wc.alloc _).heap[w.heap.size]? = _ from (alloc_other _ _ _ (by omega)).trans HR2.out) hne2)
      have hK3 : Keep b w x3 := (hK2.alloc _).grown hgrow (fun k hk => by have := (hlow k hk).1; omega)
      have hr4 := hr3.set HF3.out (by decide) (by decide) 3 (.slice a' (inc.length + 1) cap')
      have HF4 := hide (show (x3.setCell ⟨w.heap.size + 1, 3, none⟩ (.slice a' (inc.length + 1) cap')).heap[w.heap.size + 1]? = some (.cells #[.int .i64 2, .string (nm s), .slice none 0 0, (.slice a' (inc.length + 1) cap'), .bool false, .slice none 0 0] 96 (0, 0)) from setCell_block HF3.out 3 _)
      have HR4 := hide (set_other_at HR3.out (show w.heap.size ≠ w.heap.size + 1 by omega) 3 (.slice a' (inc.length + 1) cap'))
      have hK4 := hK3.setNew ⟨w.heap.size + 1, 3, none⟩ (by simp) (.slice a' (inc.length + 1) cap')
      have hown4 := ownsRow_keep hown' ((Keep.refl (w.heap.size + 1) x3).setCell 3 (.slice a' (inc.length + 1) cap')) HF3.out (by decide)
      clear hc3 hf3 HF3 HR3 hr3 hK3 hown' hgrow hK2 hown2 hr2 HF2 HR2 c1 cf1 hne hne2 hap hlow hszc
      generalize x3.setCell ⟨w.heap.size + 1, 3, none⟩ (.slice a' (inc.length + 1) cap') = x4 at *
      have hm := mayM x4 b L ts (nmT s') 16 ⟨#[124]⟩ rfl (by decide) (by decide) hr4
      cases h16 : isK (nmT s') 16
      · rw [h16] at hm
        have HRES := hide (show rUnion s = (⟨2, nm s, [], inc ++ [y], false, []⟩, nmT s') from by rw [HM.out, HST.out, h16]; rfl)
        clear h16 HST HM
        refine hm.mono ?_
        clear hm
        rintro e x5 ⟨rfl, hr5, hk5⟩
        have hr5 : RS x5 b L ts (nmT s') := hr5
        have hF1 := hk5.at HF4.out (by omega)
        have hR1 := hk5.at HR4.out (by omega)
        have hK1 := hK4.trans hk5
        obtain ⟨a0, bad0, q1, _, _⟩ := hr4.st
        have hown1 : x5.ownsRow (w.heap.size + 2) 9 1 (.slice a' (inc.length + 1) cap') (inc ++ [y]).length (strsV (inc ++ [y])) := by
          have := ownsRow_keep hown4 hk5 q1 (by decide)
          simpa [strsV] using this
        have hil2 : (inc ++ [y]).length ≤ 801 := by simp; omega
        clear q1 HF4 HR4 hK4 hr4 hown4 hk5
        have p0 : x5.cell? ⟨w.heap.size + 1, 0, none⟩ = some (.int .i64 2) := cell_of_block hF1 0
        have r0 : x5.cell? ⟨w.heap.size, 0, none⟩ = some (.int .i64 0) := cell_of_block hR1 0
        have p1 : x5.cell? ⟨w.heap.size + 1, 1, none⟩ = some (.string (nm s)) := cell_of_block hF1 1
        have r1 : x5.cell? ⟨w.heap.size, 1, none⟩ = some (.string ⟨#[]⟩) := cell_of_block hR1 1
        have p2 : x5.cell? ⟨w.heap.size + 1, 2, none⟩ = some (.slice none 0 0) := cell_of_block hF1 2
        have r2 : x5.cell? ⟨w.heap.size, 2, none⟩ = some (.slice none 0 0) := cell_of_block hR1 2
        have p3 : x5.cell? ⟨w.heap.size + 1, 3, none⟩ = some (.slice a' (inc.length + 1) cap') := cell_of_block hF1 3
        have r3 : x5.cell? ⟨w.heap.size, 3, none⟩ = some (.slice none 0 0) := cell_of_block hR1 3
        have p4 : x5.cell? ⟨w.heap.size + 1, 4, none⟩ = some (.bool false) := cell_of_block hF1 4
        have r4 : x5.cell? ⟨w.heap.size, 4, none⟩ = some (.bool false) := cell_of_block hR1 4
        have p5 : x5.cell? ⟨w.heap.size + 1, 5, none⟩ = some (.slice none 0 0) := cell_of_block hF1 5
        have r5 : x5.cell? ⟨w.heap.size, 5, none⟩ = some (.slice none 0 0) := cell_of_block hR1 5
        have rf : ∀ j, x5.frozen? ⟨w.heap.size, j, none⟩ = false := fun j => frozen_of_block hR1 j
        have HZ1 := hide (hr5.set6 hR1 (by decide) (by decide) (.int .i64 2) (.string (nm s)) (.slice none 0 0) (.slice a' (inc.length + 1) cap') (.bool false) (.slice none 0 0))
        have HZ2 := hide (keep_set6 hK1 (Nat.le_refl _) (.int .i64 2) (.string (nm s)) (.slice none 0 0) (.slice a' (inc.length + 1) cap') (.bool false) (.slice none 0 0))
        have HZ3 := hide (ownsRow_set6 hown1 hR1 (by decide) (.int .i64 2) (.string (nm s)) (.slice none 0 0) (.slice a' (inc.length + 1) cap') (.bool false) (.slice none 0 0))
        clear hF1 hR1
        go_wp2_with fail
        refine bodyPost_ret (v := .agg #[.int .i64 2, .string (nm s), .slice none 0 0, .slice a' (inc.length + 1) cap', .bool false, .slice none 0 0]) (by simp [results, Tryz.results38, go_sem, r0, r1, r2, r3, r4, r5]) rfl ⟨_, by rw [HRES.out], ?_, by rw [HRES.out]; simp only; omega, by rw [HRES.out]; exact HZ1.out, HZ2.out⟩
        rw [HRES.out]; exact ownsRow_lower HZ3.out (by omega)
      · rw [h16] at hm
        have HL := hide (show rUnion s = (⟨2, nm s, [], (inc ++ [y]) ++ (rMemF (ln (tl (nmT s'))) (tl (nmT s'))).1, false, []⟩, (rMemF (ln (tl (nmT s'))) (tl (nmT s'))).2) from by rw [HM.out, HST.out, h16]; simp)
        clear h16 HST HM
        refine hm.mono ?_
        clear hm
        rintro e x5 ⟨rfl, hr5, hk5⟩
        have HF5 := hide (hk5.at HF4.out (by omega))
        have HR5 := hide (hk5.at HR4.out (by omega))
        have hK5 := hK4.trans hk5
        obtain ⟨a0, bad0, q1, _, _⟩ := hr4.st
        have hown5 := ownsRow_keep hown4 hk5 q1 (by decide)
        clear q1 HF4 HR4 hK4 hr4 hown4 hk5
        go_wp2_with fail
        go_roundg (ln (tl (nmT s')))
        case measure => omega
        case rel => exact ⟨inc ++ [y], _, tl (nmT s'), Nat.le_refl _, hr5, HF5.out, HR5.out, by simpa [strsV] using hown5, by simp; omega, hK5, HL.out⟩
    · rw [hnn] at c2
      have HRES := hide (show rUnion s = (⟨2, nm s, [], inc, false, []⟩, s') from by rw [HM.out, rMemF_none s' hnn]; simp)
      clear hnn
      have p0 : wr.cell? ⟨w.heap.size + 1, 0, none⟩ = some (.int .i64 2) := cell_of_block hF1 0
      have r0 : wr.cell? ⟨w.heap.size, 0, none⟩ = some (.int .i64 0) := cell_of_block hR1 0
      have p1 : wr.cell? ⟨w.heap.size + 1, 1, none⟩ = some (.string (nm s)) := cell_of_block hF1 1
      have r1 : wr.cell? ⟨w.heap.size, 1, none⟩ = some (.string ⟨#[]⟩) := cell_of_block hR1 1
      have p2 : wr.cell? ⟨w.heap.size + 1, 2, none⟩ = some (.slice none 0 0) := cell_of_block hF1 2
      have r2 : wr.cell? ⟨w.heap.size, 2, none⟩ = some (.slice none 0 0) := cell_of_block hR1 2
      have p3 : wr.cell? ⟨w.heap.size + 1, 3, none⟩ = some (.slice aI inc.length capI) := cell_of_block hF1 3
      have r3 : wr.cell? ⟨w.heap.size, 3, none⟩ = some (.slice none 0 0) := cell_of_block hR1 3
      have p4 : wr.cell? ⟨w.heap.size + 1, 4, none⟩ = some (.bool false) := cell_of_block hF1 4
      have r4 : wr.cell? ⟨w.heap.size, 4, none⟩ = some (.bool false) := cell_of_block hR1 4
      have p5 : wr.cell? ⟨w.heap.size + 1, 5, none⟩ = some (.slice none 0 0) := cell_of_block hF1 5
      have r5 : wr.cell? ⟨w.heap.size, 5, none⟩ = some (.slice none 0 0) := cell_of_block hR1 5
      have rf : ∀ j, wr.frozen? ⟨w.heap.size, j, none⟩ = false := fun j => frozen_of_block hR1 j
      have HZ1 := hide (hr.set6 hR1 (by decide) (by decide) (.int .i64 2) (.string (nm s)) (.slice none 0 0) (.slice aI inc.length capI) (.bool false) (.slice none 0 0))
      have HZ2 := hide (keep_set6 hK1 (Nat.le_refl _) (.int .i64 2) (.string (nm s)) (.slice none 0 0) (.slice aI inc.length capI) (.bool false) (.slice none 0 0))
      have HZ3 := hide (ownsRow_set6 hown1 hR1 (by decide) (.int .i64 2) (.string (nm s)) (.slice none 0 0) (.slice aI inc.length capI) (.bool false) (.slice none 0 0))
      clear hF1 hR1
      go_wp2_with fail
      refine bodyPost_ret (v := .agg #[.int .i64 2, .string (nm s), .slice none 0 0, .slice aI inc.length capI, .bool false, .slice none 0 0]) (by simp [results, Tryz.results38, go_sem, r0, r1, r2, r3, r4, r5]) rfl ⟨_, by rw [HRES.out], ?_, by rw [HRES.out]; simp only; omega, by rw [HRES.out]; exact HZ1.out, HZ2.out⟩
      rw [HRES.out]; exact ownsRow_lower HZ3.out (by omega)
end Go.Proofs.YtpggfgjongkihaaGreat
