/- The reference's checks: ruleRight. -/
import Derived.Test.YtpggfgjongkihaaGreatM10
import Derived.Laws.Runes
namespace Go.Proofs.YtpggfgjongkihaaGreat
open Go.RowKit
theorem isLs_eq (t : ByteArray) (h : 0 < t.size) : isLs t = ((t[0].toNat : Int) == 91) := by
  unfold isLs
  rw [data_cons t h, List.head?_cons]
  rw [Bool.eq_iff_iff]
  simp only [decide_eq_true_eq, Option.some.injEq, beq_iff_eq]
  constructor
  · intro e; rw [e]; rfl
  · intro e; exact u8_of_int (by simpa using e)
theorem fitF_eq (f : RFld) (h : 0 < f.ty.size) : fitF f = (scalB (coreS f.ty) && (!((f.ty[0].toNat : Int) == 91) && (f.arg.toList.isEmpty && (f.auth.toList.isEmpty && f.hide_.toList.isEmpty)))) := by
  unfold fitF
  rw [isLs_eq _ h, empty_iff, empty_iff, empty_iff]
theorem rule_eq2 {roles : List ByteArray} {flds : List RFld} {rule r : List Tk} {i : Nat} {t u : Tk} {q : Bool} (hD : rule.drop i = t :: u :: r) (h : (rl (rule.drop i)).all (leafR roles flds) = q) (ho : rlOk (rule.drop i) = true) (ht : t.k = 1) (hu : u.k = 10) : q = (fitR flds t.s && (rl (rule.drop (i + 3))).all (leafR roles flds)) ∧ rlOk (rule.drop (i + 3)) = true := by
  have e3 : rule.drop (i + 3) = r.drop 1 := by
    have : rule.drop (i + 3) = (rule.drop i).drop 3 := by rw [List.drop_drop]
    rw [this, hD]; rfl
  rw [hD] at h ho
  obtain ⟨h1, h2⟩ := rl_eq t u r ht hu
  rw [h1] at h; rw [h2] at ho
  rw [e3]
  exact ⟨by rw [← h]; rfl, ho⟩
theorem rule_is2 {roles : List ByteArray} {flds : List RFld} {rule r : List Tk} {i : Nat} {t u : Tk} {q : Bool} (hD : rule.drop i = t :: u :: r) (h : (rl (rule.drop i)).all (leafR roles flds) = q) (ho : rlOk (rule.drop i) = true) (ht : t.k = 1) (hu : u.k ≠ 10) (hs : t.s = bIs) : q = (decide (¬ idxI roles u.s < 0) && (rl (rule.drop (i + 2))).all (leafR roles flds)) ∧ rlOk (rule.drop (i + 2)) = true ∧ u.k = 1 := by
  have e3 : rule.drop (i + 2) = r := by
    have : rule.drop (i + 2) = (rule.drop i).drop 2 := by rw [List.drop_drop]
    rw [this, hD]; rfl
  rw [hD] at h ho
  obtain ⟨h1, h2⟩ := rl_is t u r ht hu hs
  rw [h1] at h; rw [h2, Bool.and_eq_true, decide_eq_true_eq] at ho
  rw [e3]
  exact ⟨by rw [← h]; rfl, ho.2, ho.1⟩
theorem rule_next {P : Bool × ByteArray → Bool} {rule : List Tk} {i : Nat} {q : Bool} (hD : rl (rule.drop i) = rl (rule.drop (i + 1)) ∧ rlOk (rule.drop i) = rlOk (rule.drop (i + 1))) (h : (rl (rule.drop i)).all P = q) (ho : rlOk (rule.drop i) = true) : (rl (rule.drop (i + 1))).all P = q ∧ rlOk (rule.drop (i + 1)) = true := by
  rw [hD.1] at h; rw [hD.2] at ho; exact ⟨h, ho⟩
set_option maxHeartbeats 4000000 in
set_option maxRecDepth 100000 in
theorem xruleRight_any (aD aA : Option Addr) (nD cD nA cA : Nat) (so : Int) (na : ByteArray) (ru : Bool) (vR vF vT : Value) (roles : List RRole) (flds : List RFld) (rule : List Tk) (w : World)
    (hR : RolesAt w vR roles) (hF : FldsAt w vF flds) (hT : TokSl w vT rule) (hok : ∀ f ∈ flds, 0 < f.ty.size ∧ f.ty.size ≤ 100000) (hlR : roles.length ≤ 801) (hlF : flds.length ≤ 801) (hlT : rule.length ≤ 801) (htk : ∀ t ∈ rule, okT t) (hrl : rlOk rule = true) :
    Calls Tryz.prog 110 #[.agg #[vR, .slice aD nD cD], .agg #[.int .i64 so, .string na, vF, .slice aA nA cA, .bool ru, vT]] w fun e w' => e = .returned (.bool ((rl rule).all (leafR (roles.map RRole.name) flds))) ∧ Below w.heap.size w w' := by
  have HR := hide hR
  have HF := hide hF
  have HT := hide hT
  have HOK := hide hok
  have HTK := hide htk
  have HRL := hide hrl
  obtain ⟨aR, cR, rfl, _⟩ := hR
  obtain ⟨aF, cF, rfl, _⟩ := hF
  obtain ⟨aT, cT, rfl⟩ := hT.slice
  clear hT hok htk hrl
  generalize hq : (rl rule).all (leafR (roles.map RRole.name) flds) = q
  have HQ := hide hq
  clear hq
  go_enter Tryz.func110, Tryz.ntmps110
  go_wp2_with fail
  go_loopg [6, 7, 8, 9, 10, 11] (rule.length + 3) (fun k v6 v7 v8 v9 v10 v11 wr => ∃ i : Nat, v6 = .int .i64 i ∧ i ≤ rule.length + 2 ∧ rule.length + 3 - i ≤ k ∧ Below (w.heap.size + 2) ((w.alloc (.cells #[.slice aR roles.length cR, .slice aD nD cD] 62)).alloc (.cells #[.int .i64 so, .string na, .slice aF flds.length cF, .slice aA nA cA, .bool ru, .slice aT rule.length cT] 96)) wr ∧ (rl (rule.drop i)).all (leafR (roles.map RRole.name) flds) = q ∧ rlOk (rule.drop i) = true)
  case atStart => exact ⟨0, rfl, Nat.zero_le _, by omega, Below.refl _ _, HQ.out, HRL.out⟩
  case round =>
    obtain ⟨i, rfl, hil, hik, hbel, hall, hro⟩ := hrel
    have HALL := hide hall
    have HRO := hide hro
    clear hall hro
    have cx0 : wr.cell? ⟨w.heap.size, 0, none⟩ = some (.slice aR roles.length cR) := by rw [hbel.cell (by simp)]; exact cell_of_block (two_R _ _ _) 0
    have cx1 : wr.cell? ⟨w.heap.size, 1, none⟩ = some (.slice aD nD cD) := by rw [hbel.cell (by simp)]; exact cell_of_block (two_R _ _ _) 1
    have cd0 : wr.cell? ⟨w.heap.size + 1, 0, none⟩ = some (.int .i64 so) := by rw [hbel.cell (by simp)]; exact cell_of_block (two_F _ _ _) 0
    have cd1 : wr.cell? ⟨w.heap.size + 1, 1, none⟩ = some (.string na) := by rw [hbel.cell (by simp)]; exact cell_of_block (two_F _ _ _) 1
    have cd2 : wr.cell? ⟨w.heap.size + 1, 2, none⟩ = some (.slice aF flds.length cF) := by rw [hbel.cell (by simp)]; exact cell_of_block (two_F _ _ _) 2
    have cd3 : wr.cell? ⟨w.heap.size + 1, 3, none⟩ = some (.slice aA nA cA) := by rw [hbel.cell (by simp)]; exact cell_of_block (two_F _ _ _) 3
    have cd4 : wr.cell? ⟨w.heap.size + 1, 4, none⟩ = some (.bool ru) := by rw [hbel.cell (by simp)]; exact cell_of_block (two_F _ _ _) 4
    have cd5 : wr.cell? ⟨w.heap.size + 1, 5, none⟩ = some (.slice aT rule.length cT) := by rw [hbel.cell (by simp)]; exact cell_of_block (two_F _ _ _) 5
    have hlow : Below w.heap.size w wr := (two_below w _ _).trans (hbel.mono (by omega))
    have hszr : w.heap.size + 2 ≤ wr.heap.size := by have := hbel.size; simp at this; omega
    by_cases hlt : i < rule.length
    · have hx := List.getElem?_eq_getElem hlt
      have hD := List.drop_eq_getElem_cons hlt
      generalize rule[i] = t at *
      have hta := HTK.out t (List.mem_of_getElem? hx)
      obtain ⟨gT, offT, ha, c0, c1⟩ := (HT.out.below hlow).at hx
      subst ha
      have HX := hide hx
      clear hx
      by_cases hk1 : t.k = 1
      · have e1 : rk t.k = 1 := (rk_one _).2 hk1
        have e2 : rs t = t.s := by unfold rs; rw [if_pos (by omega)]
        rw [e1] at c0
        rw [e2] at c1
        clear e1 e2
        by_cases hlt2 : i + 1 < rule.length
        · have hx2 := List.getElem?_eq_getElem hlt2
          have hD2 := List.drop_eq_getElem_cons hlt2
          generalize rule[i + 1] = u at *
          have hua := HTK.out u (List.mem_of_getElem? hx2)
          obtain ⟨gT', offT', ha, d0, d1⟩ := (HT.out.below hlow).at hx2
          cases ha
          rw [hD2] at hD
          clear hx2 hD2
          have hrm := rk_mark u hua
          by_cases hu : u.k = 10
          · obtain ⟨e4, e5⟩ := hrm.1 hu
            rw [e4] at d0
            rw [e5] at d1
            have HE := hide (rule_eq2 hD HALL.out HRO.out hk1 hu)
            clear e4 e5 hrm hD hu hk1
            have hc : ∀ W, Below wr.heap.size wr W → Calls Tryz.prog 49 #[.agg #[.int .i64 so, .string na, .slice aF flds.length cF, .slice aA nA cA, .bool ru, .slice (some ⟨gT, offT, none⟩) rule.length cT], .string t.s] W fun e w' => e = .returned (.int .i64 (idxI (flds.map RFld.name) t.s)) ∧ Below W.heap.size W w' := fun W hW =>
              dfield_any so na _ _ _ _ _ _ ru _ t.s (flds.map RFld.name) W ((HF.out.below (hlow.trans (hW.mono hlow.size))).names) (by simp; omega)
            have HC := hide hc
            clear hc
            have HKS := hide (fitR_neg flds t.s)
            have HKA := hide (idx_at RFld.name flds t.s)
            have HKF := hide (fitR_at flds t.s)
            generalize fitR flds t.s = fb at *
            generalize hts : t.s = ts at *
            go_upto_region 7 with fail
            go_cut [7] (fun v7 wc => v7 = .int .i64 (idxI (flds.map RFld.name) ts) ∧ Below wr.heap.size wr wc)
            case first =>
              go_region_with (go_at_call 49; refine (HC.out _ ?_).mono ?_; (first | exact (Below.refl _ _).drew | exact Below.refl _ _); rintro e w' ⟨rfl, hb'⟩)
              all_goals (try go_wp2_with fail)
              all_goals (go_meet; exact ⟨rfl, (Below.refl _ _).drew.trans hb'⟩)
            case rest =>
              obtain ⟨rfl, hbc⟩ := hcut
              have hbelc := hbel.trans (hbc.mono hszr)
              have hlowc : Below w.heap.size w wc := hlow.trans (hbc.mono hlow.size)
              have hszc := hbc.size
              have ce2 : wc.cell? ⟨w.heap.size + 1, 2, none⟩ = some (.slice aF flds.length cF) := by rw [hbelc.cell (by simp)]; exact cell_of_block (two_F _ _ _) 2
              clear cx0 cx1 cd0 cd1 cd2 cd3 cd4 cd5 c0 c1 d0 d1 HC hbel hbc
              by_cases hneg : idxI (flds.map RFld.name) ts < 0
              · have HQF := hide (show q = false from by rw [HE.out.1, HKS.out hneg, Bool.false_and])
                generalize idxI (flds.map RFld.name) ts = kk at *
                go_wp2_with fail
                go_ret
                exact ⟨ret_bool (by rw [HQF.out]), hlowc⟩
              · obtain ⟨k, f, hk, hf, _, hkl⟩ := HKA.out hneg
                have hfit := HKF.out k f hk hf
                obtain ⟨hz1, hz2⟩ := HOK.out f (List.mem_of_getElem? hf)
                rw [fitF_eq f hz1] at hfit
                rw [hk]
                have HFIT := hide hfit
                obtain ⟨gF, ha, f0, f1, f2, f3, f4⟩ := (HF.out.below hlowc).at hf
                subst ha
                clear hfit hk hf hneg HKS HKA HKF
                have hco := core_any f.ty
                go_wp2_with fail
                refine (hco _ hz2).mono ?_
                clear hco
                rintro e w1 ⟨rfl, hw1⟩
                have hw1 := hw1.symm
                subst hw1
                have hsc := scalar_any (coreS f.ty)
                have HLW := hide (show Below w.heap.size w (wc.alloc (.cells #[.string ts, .string f.arg, .string f.ty, .string f.auth, .string f.hide_] 121)) from hlowc.alloc hlowc.size _)
                have HBW := hide (show Below (w.heap.size + 2) ((w.alloc (.cells #[.slice aR roles.length cR, .slice aD nD cD] 62)).alloc (.cells #[.int .i64 so, .string na, .slice (some ⟨gF, 0, none⟩) flds.length cF, .slice aA nA cA, .bool ru, .slice (some ⟨gT, offT, none⟩) rule.length cT] 96)) (wc.alloc (.cells #[.string ts, .string f.arg, .string f.ty, .string f.auth, .string f.hide_] 121)) from hbelc.alloc (by omega) _)
                generalize coreS f.ty = cty at *
                generalize scalB cty = s1 at *
                cases s1
                · have HQF := hide (show q = false from by rw [HE.out.1, HFIT.out]; rfl)
                  go_wp2_with fail
                  refine (hsc _).mono ?_
                  clear hsc
                  rintro e w1 ⟨rfl, hw1⟩
                  have hw1 := hw1.symm
                  subst hw1
                  go_wp2_with fail
                  go_ret
                  exact ⟨ret_bool (by rw [HQF.out]), HLW.out⟩
                · cases h91 : ((f.ty[0].toNat : Int) == 91)
                  · cases hA : f.arg.toList.isEmpty
                    · have HQF := hide (show q = false from by rw [HE.out.1, HFIT.out, h91, hA]; rfl)
                      go_wp2_with fail
                      refine (hsc _).mono ?_
                      clear hsc
                      rintro e w1 ⟨rfl, hw1⟩
                      have hw1 := hw1.symm
                      subst hw1
                      go_wp2_with fail
                      go_ret
                      exact ⟨ret_bool (by rw [HQF.out]), HLW.out⟩
                    · cases hB : f.auth.toList.isEmpty
                      · have HQF := hide (show q = false from by rw [HE.out.1, HFIT.out, h91, hA, hB]; rfl)
                        go_wp2_with fail
                        refine (hsc _).mono ?_
                        clear hsc
                        rintro e w1 ⟨rfl, hw1⟩
                        have hw1 := hw1.symm
                        subst hw1
                        go_wp2_with fail
                        go_ret
                        exact ⟨ret_bool (by rw [HQF.out]), HLW.out⟩
                      · cases hH : f.hide_.toList.isEmpty
                        · have HQF := hide (show q = false from by rw [HE.out.1, HFIT.out, h91, hA, hB, hH]; rfl)
                          go_wp2_with fail
                          refine (hsc _).mono ?_
                          clear hsc
                          rintro e w1 ⟨rfl, hw1⟩
                          have hw1 := hw1.symm
                          subst hw1
                          go_wp2_with fail
                          go_ret
                          exact ⟨ret_bool (by rw [HQF.out]), HLW.out⟩
                        · have HQT := hide (show (rl (rule.drop (i + 3))).all (leafR (roles.map RRole.name) flds) = q from by rw [HE.out.1, HFIT.out, h91, hA, hB, hH]; simp)
                          go_wp2_with fail
                          refine (hsc _).mono ?_
                          clear hsc
                          rintro e w1 ⟨rfl, hw1⟩
                          have hw1 := hw1.symm
                          subst hw1
                          go_wp2_with fail
                          go_roundg (rule.length + 3 - (i + 3))
                          case measure => omega
                          case rel => exact ⟨i + 3, by go_num, by omega, Nat.le_refl _, HBW.out, HQT.out, HE.out.2⟩
                  · have HQF := hide (show q = false from by rw [HE.out.1, HFIT.out, h91]; rfl)
                    go_wp2_with fail
                    refine (hsc _).mono ?_
                    clear hsc
                    rintro e w1 ⟨rfl, hw1⟩
                    have hw1 := hw1.symm
                    subst hw1
                    go_wp2_with fail
                    go_ret
                    exact ⟨ret_bool (by rw [HQF.out]), HLW.out⟩
          · have hsl := beq_lit t.s [105, 115]
            by_cases hs : t.s = bIs
            · obtain ⟨hq1, hq2, hu1⟩ := rule_is2 hD HALL.out HRO.out hk1 hu hs
              rw [decide_eq_true (show t.s = ofB _ from hs)] at hsl
              have e1 : rk u.k = 1 := (rk_one _).2 hu1
              have e2 : rs u = u.s := by unfold rs; rw [if_pos (by omega)]
              rw [e1] at d0
              rw [e2] at d1
              have HE := hide (And.intro hq1 hq2)
              obtain ⟨j, hj⟩ : ∃ j : Nat, j = i + 1 := ⟨_, rfl⟩
              have hwi : IntKind.i64.wrap ((i : Int) + 1) = (j : Int) := by rw [wrap_small _ (by omega) (by omega)]; omega
              have hlt3 : j < rule.length := by omega
              have d0' := d0
              have d1' := d1
              rw [← hj] at d0' d1'
              have HJ := hide hj
              clear hj
              have hc : ∀ W, Below wr.heap.size wr W → Calls Tryz.prog 28 #[.agg #[.slice aR roles.length cR, .slice aD nD cD], .string u.s] W fun e w' => e = .returned (.int .i64 (idxI (roles.map RRole.name) u.s)) ∧ Below W.heap.size W w' := fun W hW =>
                xrole_any aD nD cD _ u.s (roles.map RRole.name) W ((HR.out.below (hlow.trans (hW.mono hlow.size))).names) (by simp; omega)
              have HC := hide hc
              clear hc hq1 hq2 hu1 e1 e2 hrm hD hu hk1 hs hta hua
              generalize t.s = ts at *
              generalize u.s = us at *
              go_upto_region 17 with fail
              go_cut [11] (fun v11 wc => v11 = .int .i64 (idxI (roles.map RRole.name) us) ∧ Below wr.heap.size wr wc)
              case first =>
                go_region_with (go_at_call 28; refine (HC.out _ ?_).mono ?_; (first | exact (Below.refl _ _).drew | exact Below.refl _ _); rintro e w' ⟨rfl, hb'⟩)
                all_goals (try go_wp2_with fail)
                all_goals (go_meet; exact ⟨rfl, (Below.refl _ _).drew.trans hb'⟩)
              case rest =>
                obtain ⟨rfl, hbc⟩ := hcut
                have hbelc := hbel.trans (hbc.mono hszr)
                have hlowc : Below w.heap.size w wc := hlow.trans (hbc.mono hlow.size)
                clear cx0 cx1 cd0 cd1 cd2 cd3 cd4 cd5 c0 c1 d0 d1 HC hbel hbc
                generalize idxI (roles.map RRole.name) us = kk at *
                by_cases hneg : kk < 0
                · have HQF := hide (show q = false from by rw [HE.out.1, decide_eq_false (by omega), Bool.false_and])
                  go_wp2_with fail
                  go_ret
                  exact ⟨ret_bool (by rw [HQF.out]), hlowc⟩
                · have HQT := hide (show (rl (rule.drop (i + 2))).all (leafR (roles.map RRole.name) flds) = q from by rw [HE.out.1, decide_eq_true hneg, Bool.true_and])
                  go_wp2_with fail
                  have hj := HJ.out
                  go_roundg (rule.length + 3 - (i + 2))
                  case measure => omega
                  case rel => exact ⟨i + 2, by go_num, by omega, Nat.le_refl _, hbelc, HQT.out, HE.out.2⟩
            · rw [decide_eq_false (show ¬ t.s = ofB _ from hs)] at hsl
              have hD1 : rule.drop (i + 1) = u :: rule.drop (i + 2) := by
                have : rule.drop (i + 1) = (rule.drop i).drop 1 := by rw [List.drop_drop]
                rw [this, hD]; rfl
              have HN := hide (rule_next (P := leafR (roles.map RRole.name) flds) (rule := rule) (i := i) (by rw [hD, hD1]; exact rl_word t _ (fun x hx => by simp at hx; subst hx; exact hu) hs) HALL.out HRO.out)
              have hul := beq_lit (rs u) [61]
              have hcond : ((rk u.k : Int) == 4) = false ∨ ((rk u.k : Int) == 4) = true ∧ ((rs u).toList == [61]) = false := by
                by_cases h4 : rk u.k = 4
                · right
                  refine ⟨by simp; omega, ?_⟩
                  rw [hul, decide_eq_false]
                  intro e
                  exact hu (hrm.2 ⟨h4, e⟩)
                · left; simp; omega
              clear hul hrm hD hD1 hu hk1 hs hta hua
              generalize t.s = ts at *
              generalize rs u = us at *
              generalize rk u.k = ku at *
              rcases hcond with t1 | ⟨t1, t2⟩
              · go_wp2_with fail
                go_roundg (rule.length + 3 - (i + 1))
                case measure => omega
                case rel => exact ⟨i + 1, by go_num, by omega, Nat.le_refl _, hbel, HN.out.1, HN.out.2⟩
              · go_wp2_with fail
                go_roundg (rule.length + 3 - (i + 1))
                case measure => omega
                case rel => exact ⟨i + 1, by go_num, by omega, Nat.le_refl _, hbel, HN.out.1, HN.out.2⟩
        · have hD1 : rule.drop (i + 1) = [] := List.drop_of_length_le (by omega)
          rw [hD1] at hD
          have hs : t.s ≠ bIs := by
            intro e
            have := HRO.out
            rw [hD, rlOk, decide_eq_true hk1, decide_eq_true e] at this
            cases this
          have HN := hide (rule_next (P := leafR (roles.map RRole.name) flds) (rule := rule) (i := i) (by rw [hD, hD1]; exact rl_word t _ (fun x hx => by simp at hx) hs) HALL.out HRO.out)
          have hsl := beq_lit t.s [105, 115]
          rw [decide_eq_false (show ¬ t.s = ofB _ from hs)] at hsl
          clear hD hD1 hk1 hs hta
          generalize t.s = ts at *
          go_wp2_with fail
          go_roundg (rule.length + 3 - (i + 1))
          case measure => omega
          case rel => exact ⟨i + 1, by go_num, by omega, Nat.le_refl _, hbel, HN.out.1, HN.out.2⟩
      · have hne : ((rk t.k : Int) == 1) = false := by simp; intro e; exact hk1 ((rk_one _).1 (by omega))
        have HN := hide (rule_next (P := leafR (roles.map RRole.name) flds) (rule := rule) (i := i) (by rw [hD]; exact rl_skip t _ hk1) HALL.out HRO.out)
        clear hk1 hD hta
        generalize rk t.k = kt at *
        go_wp2_with fail
        go_roundg (rule.length + 3 - (i + 1))
        case measure => omega
        case rel => exact ⟨i + 1, by go_num, by omega, Nat.le_refl _, hbel, HN.out.1, HN.out.2⟩
    · have HQT := hide (show q = true from by
        have e : rule.drop i = [] := List.drop_of_length_le (by omega)
        rw [← HALL.out, e, rl]; rfl)
      go_wp2_with fail
      go_ret
      exact ⟨ret_bool (by rw [HQT.out]), hlow⟩
end Go.Proofs.YtpggfgjongkihaaGreat
