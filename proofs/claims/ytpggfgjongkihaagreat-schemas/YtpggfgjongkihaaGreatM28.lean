/- The reference: ReadSchema. -/
import Derived.Test.YtpggfgjongkihaaGreatM27
import Derived.BigQuiet
namespace Go.Proofs.YtpggfgjongkihaaGreat
open Go.RowKit
theorem Tryz.info92 : (Tryz.prog.info? 92).map (fun i => (i.zero, i.size, i.bytes)) = some (some (.agg #[.string ⟨#[]⟩, .slice none 0 0]), 2, 40) := by kernel_rfl
theorem Tryz.info96 : (Tryz.prog.info? 96).map (fun i => (i.zero, i.size, i.bytes)) = some (some (.agg #[.int .i64 0, .string ⟨#[]⟩, .slice none 0 0, .slice none 0 0, .bool false, .slice none 0 0]), 6, 104) := by kernel_rfl
theorem allInc_le : ∀ (l : List RRole), (∀ r ∈ l, r.inc.length ≤ 801) → (allInc l).length ≤ l.length * 801
  | [], _ => by simp [allInc]
  | r :: l, h => by
    unfold allInc
    rw [List.flatMap_cons, List.length_append, List.length_cons, Nat.add_mul]
    have h1 := allInc_le l (fun x hx => h x (by simp [hx]))
    have h2 := h r (by simp)
    unfold allInc at h1
    omega
theorem atEnd_drop (ts : List Tk) (a : Nat) : atEnd (some (ts.drop a)) = decide (ts.length ≤ a) := by
  unfold atEnd
  rw [Option.getD_some]
  by_cases h : ts.length ≤ a
  · rw [List.drop_of_length_le h, decide_eq_true h]; rfl
  · rw [List.drop_eq_getElem_cons (by omega), decide_eq_false h]; rfl
set_option maxHeartbeats 8000000 in
set_option maxRecDepth 100000 in
theorem readSchema_any (x : ByteArray) (w : World) (hs : x.size ≤ maxLen) (hokd : doneS (rParse (cutS x)).2 = true → ∀ d ∈ (rParse (cutS x)).1.defs, okDef d) :
    Calls Tryz.prog 23 #[.string x] w fun e w' => ∃ a n c a' n' c', e = .returned (.tuple #[.agg #[.slice a n c, .slice a' n' c'], .int .i64 (checkR x)]) ∧ Below w.heap.size w w' := by
  have hc := fun o => refCut_any x (w.alloc o) hs
  have HCK := hide (show checkR x = if doneS (rParse (cutS x)).2 = true then (if rightR (rParse (cutS x)).1.roles (rParse (cutS x)).1.defs = true then 0 else 2) else 1 from rfl)
  have HOKD := hide hokd
  clear hokd
  have HCO := hide (cutS_ok x)
  obtain ⟨iR, hiR, zR0, zR1, zR2⟩ := info_parts Tryz.info92
  obtain ⟨iD, hiD, zD0, zD1, zD2⟩ := info_parts Tryz.info96
  generalize checkR x = FF at *
  go_enter Tryz.func23, Tryz.ntmps23
  go_wp2_with fail
  refine (hc _).mono ?_
  clear hc
  rintro e w1 ⟨vL, b, ts, rfl, hb1, hown, hcut⟩
  obtain ⟨aL, capL, hvL⟩ := own_slice hown
  subst hvL
  have HRES1 := hide ((hb1.block _ (by simp)).trans (one_at w (.cells #[.slice none 0 0, .slice none 0 0] 62)))
  have hsz1 : w.heap.size + 1 ≤ w1.heap.size := by have := hb1.size; simp at this; omega
  have HOWN := hide (ownsRow_lower hown (Nat.zero_le _))
  have HB1 := hide (show Below w.heap.size w w1 from ((Below.refl _ _).alloc (Nat.le_refl _) _).trans (hb1.mono (by simp)))
  clear hb1 hown
  cases b
  · have HN := hide (show cutS x = none from hcut)
    have HF := hide (show FF = 1 from by rw [HCK.out, HN.out]; rfl)
    clear hcut
    go_wp2_with fail
    have HRES2 := hide (((two_below w1 (.cells #[.slice aL ts.length capL, .int .i64 0, .bool true, .int .i64 0] 89) (.cells #[.slice none 0 0, .slice none 0 0] 62)).block _ (by omega)).trans HRES1.out)
    have c2 : ((w1.alloc (.cells #[.slice aL ts.length capL, .int .i64 0, .bool true, .int .i64 0] 89)).alloc (.cells #[.slice none 0 0, .slice none 0 0] 62)).cell? ⟨w1.heap.size, 2, none⟩ = some (.bool true) := cell_of_block (two_R _ _ _) 2
    go_loopg [8, 9, 10, 11, 12] 0 (fun k v8 v9 v10 v11 v12 wr => wr.cell? ⟨w1.heap.size, 2, none⟩ = some (.bool true) ∧ wr.heap[w.heap.size]? = some (.cells #[.slice none 0 0, .slice none 0 0] 62) ∧ Below w.heap.size w wr)
    case atStart => exact ⟨c2, HRES2.out, HB1.out.trans ((two_below w1 _ _).mono HB1.out.size)⟩
    case round =>
      clear c2
      obtain ⟨c2, hres, hbw⟩ := hrel
      have HRES := hide hres
      have HBW := hide hbw
      clear hres hbw
      go_wp2_with fail
      go_quiet (fail)
      go_wp2_with fail
      refine (done_bad _ _ (by simpa using c2)).mono ?_
      rintro e w3 ⟨rfl, hb3⟩
      have HBN := hide ((below_drewN HBW.out nq).trans (hb3.mono (below_drewN HBW.out nq).size))
      have hres3 : w3.heap[w.heap.size]? = some (.cells #[.slice none 0 0, .slice none 0 0] 62 (0, 0)) := (hb3.block _ (lt_of_block HRES.out)).trans HRES.out
      have r0 : w3.cell? ⟨w.heap.size, 0, none⟩ = some (.slice none 0 0) := cell_of_block hres3 0
      have r1 : w3.cell? ⟨w.heap.size, 1, none⟩ = some (.slice none 0 0) := cell_of_block hres3 1
      have rf : ∀ j, w3.frozen? ⟨w.heap.size, j, none⟩ = false := fun j => frozen_of_block hres3 j
      clear hres3
      go_wp2_with fail
      refine bodyPost_ret (v := .tuple #[.agg #[.slice none 0 0, .slice none 0 0], .int .i64 1]) (by simp [results, Tryz.results23, go_sem, r0, r1]) rfl ⟨_, _, _, _, _, _, by rw [HF.out]; rfl, (HBN.out.setCell (Nat.le_refl _) _).setCell (Nat.le_refl _) _⟩
  · have HN := hide (show cutS x = some ts from hcut)
    clear hcut
    obtain ⟨hwf, hlen⟩ := HCO.out ts HN.out
    obtain ⟨bad, hbad⟩ : ∃ bad, ((ts.length : Int) == 0) = bad := ⟨_, rfl⟩
    have HS0 := hide (show rStart (some ts) = (if bad = true then none else some ts) from by
      rw [← hbad]
      cases ts with
      | nil => rfl
      | cons t l => rw [if_neg (by simp; omega)]; rfl)
    obtain ⟨s0, hs0⟩ : ∃ s0, rStart (some ts) = s0 := ⟨_, rfl⟩
    rw [hs0] at HS0
    have HP := hide (show rParse (cutS x) = rLoop 802 r00 s0 from by rw [HN.out, ← hs0]; rfl)
    have hl0 : ln s0 ≤ 801 := by rw [HS0.out]; cases bad <;> simp [ln] <;> omega
    clear hs0
    rw [HP.out] at HCK HOKD
    go_wp2_with fail
    have HRES2 := hide (((two_below w1 (.cells #[.slice aL ts.length capL, .int .i64 0, .bool bad, .int .i64 0] 89) (.cells #[.slice none 0 0, .slice none 0 0] 62)).block _ (by omega)).trans HRES1.out)
    have HRS2 := hide (show RS ((w1.alloc (.cells #[.slice aL ts.length capL, .int .i64 0, .bool bad, .int .i64 0] 89)).alloc (.cells #[.slice none 0 0, .slice none 0 0] 62)) w1.heap.size (.slice aL ts.length capL) ts s0 from ⟨⟨0, bad, two_R _ _ _, Nat.zero_le _, by rw [HS0.out, List.drop_zero]⟩, ownsRow_below HOWN.out (two_below _ _ _), hlen, hwf⟩)
    have HRX2 := hide (show RX ((w1.alloc (.cells #[.slice aL ts.length capL, .int .i64 0, .bool bad, .int .i64 0] 89)).alloc (.cells #[.slice none 0 0, .slice none 0 0] 62)) (w1.heap.size + 1) w.heap.size (.slice none 0 0) (.slice none 0 0) [] [] from ⟨two_F _ _ _, RowG.nil _ _ _ _ _ _, RowG.nil _ _ _ _ _ _⟩)
    clear hbad HOWN HRES1
    have HWF := hide hwf
    clear hwf
    go_loopg [8, 9, 10, 11, 12] (ln s0) (fun k v8 v9 v10 v11 v12 wr => ∃ (c : RSch) (s' : St) (f : Nat) (vR vD : Value) (LR : List (RRole × Value)) (LD : List (RDef × Value × Value × Value)), ln s' ≤ k ∧ ln s' ≤ f ∧ RS wr w1.heap.size (.slice aL ts.length capL) ts s' ∧ RX wr (w1.heap.size + 1) w.heap.size vR vD LR LD ∧ wr.heap[w.heap.size]? = some (.cells #[.slice none 0 0, .slice none 0 0] 62 (0, 0)) ∧ LR.map Prod.fst = c.roles ∧ LD.map Prod.fst = c.defs ∧ LR.length + LD.length + ln s' ≤ 802 ∧ (∀ r ∈ c.roles, r.inc.length ≤ 801) ∧ Below w.heap.size w wr ∧ rLoop 802 r00 s0 = rLoop f c s')
    case atStart => exact ⟨r00, s0, 802, _, _, [], [], Nat.le_refl _, by omega, HRS2.out, HRX2.out, HRES2.out, rfl, rfl, by simp; omega, fun r hr => by simp [r00] at hr, HB1.out.trans ((two_below w1 _ _).mono HB1.out.size), rfl⟩
    case round =>
      clear HRS2 HRX2 HRES2
      obtain ⟨c, s', f, vR, vD, LR, LD, hlk, hlf, hr, hx, hres, hmR, hmD, hlens, hinc, hbw, hrel⟩ := hrel
      have HBW := hide hbw
      clear hbw
      have HM := hide hrel
      have HMR := hide hmR
      have HMD := hide hmD
      have HINC := hide hinc
      have HR := hide hr
      have HX := hide hx
      have HRES := hide hres
      obtain ⟨aR, cR, hvR⟩ := own_slice hx.r.own
      obtain ⟨aD, cD, hvD⟩ := own_slice hx.d.own
      subst hvR
      subst hvD
      have hrlt := hr.lt
      obtain ⟨a, bd, hblk, hal, hs'⟩ := hr.st
      have c0 : wr.cell? ⟨w1.heap.size, 0, none⟩ = some (.slice aL ts.length capL) := cell_of_block hblk 0
      have c1 : wr.cell? ⟨w1.heap.size, 1, none⟩ = some (.int .i64 a) := cell_of_block hblk 1
      have c2 : wr.cell? ⟨w1.heap.size, 2, none⟩ = some (.bool bd) := cell_of_block hblk 2
      clear hrel hmR hmD hinc hr hx hres hblk
      by_cases hae : atEnd s' = true
      · have HE := hide (show rLoop 802 r00 s0 = (c, s') from by rw [HM.out, rLoop_stop _ _ _ hae])
        rw [HE.out] at HCK HOKD
        dsimp only at HCK HOKD
        have hexit : bd = true ∨ bd = false ∧ ts.length ≤ a := by
          cases bd
          · right
            refine ⟨rfl, ?_⟩
            rw [hs'] at hae
            simp only [Bool.false_eq_true, if_false] at hae
            rw [atEnd_drop, decide_eq_true_eq] at hae
            exact hae
          · left; rfl
        have hdl : doneS s' = true → ln s' = 1 := by
          intro h
          match s', h with
          | some [], _ => rfl
        clear hae HM hs'
        have HDN := hide (fun n => done_any (wr.drewN n) w1.heap.size _ ts s' (HR.out.below (below_drewN (Below.refl _ _) n)))
        rcases hexit with rfl | ⟨rfl, hlt⟩
        · go_wp2_with fail
          go_quiet (fail)
          go_wp2_with fail
          refine (HDN.out nq).mono ?_
          rintro e w3 ⟨rfl, hb3⟩
          have hb3' : Below wr.heap.size wr w3 := (below_drewN (Below.refl _ _) nq).trans hb3
          clear hb3
          have HRESN := hide ((hb3'.block _ (lt_of_block HRES.out)).trans HRES.out)
          have HBN := hide (HBW.out.trans (hb3'.mono HBW.out.size))
          have HX3 := hide (HX.out.below hb3')
          cases hdn : doneS s'
          · have HF := hide (show FF = 1 from by rw [HCK.out, hdn]; rfl)
            clear hdn hdl
            have hres3 : w3.heap[w.heap.size]? = some (.cells #[.slice none 0 0, .slice none 0 0] 62 (0, 0)) := HRESN.out
            have r0 : w3.cell? ⟨w.heap.size, 0, none⟩ = some (.slice none 0 0) := cell_of_block hres3 0
            have r1 : w3.cell? ⟨w.heap.size, 1, none⟩ = some (.slice none 0 0) := cell_of_block hres3 1
            have rf : ∀ j, w3.frozen? ⟨w.heap.size, j, none⟩ = false := fun j => frozen_of_block hres3 j
            clear hres3
            go_wp2_with fail
            refine bodyPost_ret (v := .tuple #[.agg #[.slice none 0 0, .slice none 0 0], .int .i64 1]) (by simp [results, Tryz.results23, go_sem, r0, r1]) rfl ⟨_, _, _, _, _, _, by rw [HF.out]; rfl, (HBN.out.setCell (Nat.le_refl _) _).setCell (Nat.le_refl _) _⟩
          · have hl1 := hdl hdn
            have hoks := HOKD.out hdn
            have HF2 := hide (show FF = if rightR c.roles c.defs = true then 0 else 2 from by rw [HCK.out, hdn]; rfl)
            have hlr : c.roles.length ≤ 801 := by rw [← HMR.out, List.length_map]; omega
            have hld : c.defs.length ≤ 801 := by rw [← HMD.out, List.length_map]; omega
            have hcr := right_any _ _ c.roles c.defs w3 (by rw [← HMR.out]; exact HX3.out.roles) (by rw [← HMD.out]; exact HX3.out.defs) hoks hlr hld (by have := allInc_le c.roles HINC.out; omega)
            have dX0 : w3.cell? ⟨w1.heap.size + 1, 0, none⟩ = some (.slice aR LR.length cR) := cell_of_block HX3.out.x 0
            have dX1 : w3.cell? ⟨w1.heap.size + 1, 1, none⟩ = some (.slice aD LD.length cD) := cell_of_block HX3.out.x 1
            generalize rightR c.roles c.defs = rb at *
            clear hdn hdl hoks
            go_wp2_with fail
            refine hcr.mono ?_
            clear hcr
            rintro e w5 ⟨rfl, hb5⟩
            have HRES5 := hide ((hb5.block _ (lt_of_block HRESN.out)).trans HRESN.out)
            have HX5 := hide ((hb5.block _ (lt_of_block HX3.out.x)).trans HX3.out.x)
            have HBQ := hide (HBN.out.trans (hb5.mono HBN.out.size))
            clear HRESN dX0 dX1 hb5 HBN
            have HRESN := HRES5
            have HBN := HBQ
            have dX0 : w5.cell? ⟨w1.heap.size + 1, 0, none⟩ = some (.slice aR LR.length cR) := cell_of_block HX5.out 0
            have dX1 : w5.cell? ⟨w1.heap.size + 1, 1, none⟩ = some (.slice aD LD.length cD) := cell_of_block HX5.out 1
            cases rb
            · have HF := hide (show FF = 2 from HF2.out)
              have hres3 : w5.heap[w.heap.size]? = some (.cells #[.slice none 0 0, .slice none 0 0] 62 (0, 0)) := HRESN.out
              have r0 : w5.cell? ⟨w.heap.size, 0, none⟩ = some (.slice none 0 0) := cell_of_block hres3 0
              have r1 : w5.cell? ⟨w.heap.size, 1, none⟩ = some (.slice none 0 0) := cell_of_block hres3 1
              have rf : ∀ j, w5.frozen? ⟨w.heap.size, j, none⟩ = false := fun j => frozen_of_block hres3 j
              clear hres3
              go_wp2_with fail
              refine bodyPost_ret (v := .tuple #[.agg #[.slice none 0 0, .slice none 0 0], .int .i64 2]) (by simp [results, Tryz.results23, go_sem, r0, r1]) rfl ⟨_, _, _, _, _, _, by rw [HF.out]; rfl, (HBN.out.setCell (Nat.le_refl _) _).setCell (Nat.le_refl _) _⟩
            · have HF := hide (show FF = 0 from HF2.out)
              have hres3 : w5.heap[w.heap.size]? = some (.cells #[.slice none 0 0, .slice none 0 0] 62 (0, 0)) := HRESN.out
              have r0 : w5.cell? ⟨w.heap.size, 0, none⟩ = some (.slice none 0 0) := cell_of_block hres3 0
              have r1 : w5.cell? ⟨w.heap.size, 1, none⟩ = some (.slice none 0 0) := cell_of_block hres3 1
              have rf : ∀ j, w5.frozen? ⟨w.heap.size, j, none⟩ = false := fun j => frozen_of_block hres3 j
              clear hres3
              go_wp2_with fail
              refine bodyPost_ret (v := .tuple #[.agg #[.slice aR LR.length cR, .slice aD LD.length cD], .int .i64 0]) (by simp [results, Tryz.results23, go_sem, r0, r1]) rfl ⟨_, _, _, _, _, _, by rw [HF.out]; rfl, (HBN.out.setCell (Nat.le_refl _) _).setCell (Nat.le_refl _) _⟩
        · have hltd : decide ((a : Int) < (ts.length : Int)) = false := decide_eq_false (by omega)
          go_wp2_with fail
          go_quiet (fail)
          go_wp2_with fail
          all_goals (try (exfalso; omega))
          refine (HDN.out nq).mono ?_
          rintro e w3 ⟨rfl, hb3⟩
          have hb3' : Below wr.heap.size wr w3 := (below_drewN (Below.refl _ _) nq).trans hb3
          clear hb3
          have HRESN := hide ((hb3'.block _ (lt_of_block HRES.out)).trans HRES.out)
          have HBN := hide (HBW.out.trans (hb3'.mono HBW.out.size))
          have HX3 := hide (HX.out.below hb3')
          cases hdn : doneS s'
          · have HF := hide (show FF = 1 from by rw [HCK.out, hdn]; rfl)
            clear hdn hdl
            have hres3 : w3.heap[w.heap.size]? = some (.cells #[.slice none 0 0, .slice none 0 0] 62 (0, 0)) := HRESN.out
            have r0 : w3.cell? ⟨w.heap.size, 0, none⟩ = some (.slice none 0 0) := cell_of_block hres3 0
            have r1 : w3.cell? ⟨w.heap.size, 1, none⟩ = some (.slice none 0 0) := cell_of_block hres3 1
            have rf : ∀ j, w3.frozen? ⟨w.heap.size, j, none⟩ = false := fun j => frozen_of_block hres3 j
            clear hres3
            go_wp2_with fail
            refine bodyPost_ret (v := .tuple #[.agg #[.slice none 0 0, .slice none 0 0], .int .i64 1]) (by simp [results, Tryz.results23, go_sem, r0, r1]) rfl ⟨_, _, _, _, _, _, by rw [HF.out]; rfl, (HBN.out.setCell (Nat.le_refl _) _).setCell (Nat.le_refl _) _⟩
          · have hl1 := hdl hdn
            have hoks := HOKD.out hdn
            have HF2 := hide (show FF = if rightR c.roles c.defs = true then 0 else 2 from by rw [HCK.out, hdn]; rfl)
            have hlr : c.roles.length ≤ 801 := by rw [← HMR.out, List.length_map]; omega
            have hld : c.defs.length ≤ 801 := by rw [← HMD.out, List.length_map]; omega
            have hcr := right_any _ _ c.roles c.defs w3 (by rw [← HMR.out]; exact HX3.out.roles) (by rw [← HMD.out]; exact HX3.out.defs) hoks hlr hld (by have := allInc_le c.roles HINC.out; omega)
            have dX0 : w3.cell? ⟨w1.heap.size + 1, 0, none⟩ = some (.slice aR LR.length cR) := cell_of_block HX3.out.x 0
            have dX1 : w3.cell? ⟨w1.heap.size + 1, 1, none⟩ = some (.slice aD LD.length cD) := cell_of_block HX3.out.x 1
            generalize rightR c.roles c.defs = rb at *
            clear hdn hdl hoks
            go_wp2_with fail
            refine hcr.mono ?_
            clear hcr
            rintro e w5 ⟨rfl, hb5⟩
            have HRES5 := hide ((hb5.block _ (lt_of_block HRESN.out)).trans HRESN.out)
            have HX5 := hide ((hb5.block _ (lt_of_block HX3.out.x)).trans HX3.out.x)
            have HBQ := hide (HBN.out.trans (hb5.mono HBN.out.size))
            clear HRESN dX0 dX1 hb5 HBN
            have HRESN := HRES5
            have HBN := HBQ
            have dX0 : w5.cell? ⟨w1.heap.size + 1, 0, none⟩ = some (.slice aR LR.length cR) := cell_of_block HX5.out 0
            have dX1 : w5.cell? ⟨w1.heap.size + 1, 1, none⟩ = some (.slice aD LD.length cD) := cell_of_block HX5.out 1
            cases rb
            · have HF := hide (show FF = 2 from HF2.out)
              have hres3 : w5.heap[w.heap.size]? = some (.cells #[.slice none 0 0, .slice none 0 0] 62 (0, 0)) := HRESN.out
              have r0 : w5.cell? ⟨w.heap.size, 0, none⟩ = some (.slice none 0 0) := cell_of_block hres3 0
              have r1 : w5.cell? ⟨w.heap.size, 1, none⟩ = some (.slice none 0 0) := cell_of_block hres3 1
              have rf : ∀ j, w5.frozen? ⟨w.heap.size, j, none⟩ = false := fun j => frozen_of_block hres3 j
              clear hres3
              go_wp2_with fail
              refine bodyPost_ret (v := .tuple #[.agg #[.slice none 0 0, .slice none 0 0], .int .i64 2]) (by simp [results, Tryz.results23, go_sem, r0, r1]) rfl ⟨_, _, _, _, _, _, by rw [HF.out]; rfl, (HBN.out.setCell (Nat.le_refl _) _).setCell (Nat.le_refl _) _⟩
            · have HF := hide (show FF = 0 from HF2.out)
              have hres3 : w5.heap[w.heap.size]? = some (.cells #[.slice none 0 0, .slice none 0 0] 62 (0, 0)) := HRESN.out
              have r0 : w5.cell? ⟨w.heap.size, 0, none⟩ = some (.slice none 0 0) := cell_of_block hres3 0
              have r1 : w5.cell? ⟨w.heap.size, 1, none⟩ = some (.slice none 0 0) := cell_of_block hres3 1
              have rf : ∀ j, w5.frozen? ⟨w.heap.size, j, none⟩ = false := fun j => frozen_of_block hres3 j
              clear hres3
              go_wp2_with fail
              refine bodyPost_ret (v := .tuple #[.agg #[.slice aR LR.length cR, .slice aD LD.length cD], .int .i64 0]) (by simp [results, Tryz.results23, go_sem, r0, r1]) rfl ⟨_, _, _, _, _, _, by rw [HF.out]; rfl, (HBN.out.setCell (Nat.le_refl _) _).setCell (Nat.le_refl _) _⟩
      · have hae2 : atEnd s' = false := by simpa using hae
        have hbd : bd = false := by
          cases bd
          · rfl
          · rw [hs'] at hae; exact absurd rfl hae
        subst hbd
        have hlt : a < ts.length := by
          rw [hs'] at hae2
          simp only [Bool.false_eq_true, if_false] at hae2
          rw [atEnd_drop, decide_eq_false_iff_not] at hae2
          omega
        have hl1 := ln_nmT_lt s' (atEnd_some s' hae2)
        have hls : ln s' ≤ 801 := HR.out.lnle
        have hl2 := ln_rDef c s' hls
        obtain ⟨f', rfl⟩ : ∃ f', f = f' + 1 := ⟨f - 1, by omega⟩
        have HE := hide (show rLoop 802 r00 s0 = rLoop f' (rDef c s').1 (rDef c s').2 from by rw [HM.out, rLoop, if_neg hae])
        clear hae hae2 HM hs'
        go_wp2_with fail
        go_quiet (fail)
        go_wp2_with fail
        have HR2 := hide (HR.out.below (below_drewN (Below.refl _ _) nq))
        have HX2 := hide (HX.out.below (below_drewN (Below.refl _ _) nq))
        have HRES2 := hide (show (wr.drewN nq).heap[w.heap.size]? = some (.cells #[.slice none 0 0, .slice none 0 0] 62 (0, 0)) from HRES.out)
        have hrlt2 : w1.heap.size < (wr.drewN nq).heap.size := hrlt
        have HB2 := hide (below_drewN HBW.out nq)
        clear HR HX HRES c0 c1 c2 hrlt HBW
        generalize wr.drewN nq = w2 at *
        refine (name_any w2 w1.heap.size _ ts s' HR2.out).mono ?_
        rintro e w3 ⟨rfl, hr3, hk3⟩
        obtain ⟨a3, b3, hblk3, _, _⟩ := HR2.out.st
        have HX3 := hide (HX2.out.keep hk3 hblk3)
        have HRES3 := hide (hk3.at HRES2.out (by omega))
        have HR3 := hide hr3
        have hsz3 := hk3.size
        have HB3 := hide (HB2.out.trans (hk3.below (by omega) HB2.out.size))
        clear hr3 hk3 hblk3 HR2 HX2 HRES2
        have L1 := beq_lit (nm s') [114, 111, 108, 101]
        have L2 := beq_lit (nm s') [116, 121, 112, 101]
        have L3 := beq_lit (nm s') [105, 110, 116, 101, 114, 102, 97, 99, 101]
        have L4 := beq_lit (nm s') [117, 110, 105, 111, 110]
        by_cases e1 : nm s' = bRole
        · have HQ := hide (show rDef c s' = (⟨c.roles ++ [(rRole (nmT s')).1], c.defs⟩, (rRole (nmT s')).2) from by unfold rDef; rw [if_pos e1])
          rw [decide_eq_true (show nm s' = ofB _ from e1)] at L1
          clear e1 L2 L3 L4
          generalize nm s' = n0 at *
          generalize nmT s' = s1 at *
          rw [HQ.out] at HE hl2
          dsimp only at HE hl2
          have hcl := role_any w3 w1.heap.size _ ts s1 HR3.out
          generalize rRole s1 = el at *
          go_wp2_with fail
          refine hcl.mono ?_
          clear hcl
          rintro e w4 ⟨v, rfl, hov, hvl, hr4, hk4⟩
          obtain ⟨aV, cV, hv⟩ := own_slice hov
          subst hv
          obtain ⟨a4, b4, hblk4, _, _⟩ := HR3.out.st
          have HX4 := hide (HX3.out.keep hk4 hblk4)
          have HRES4 := hide (hk4.at HRES3.out (by omega))
          have HOV := hide (ownsRow_lower hov (show w.heap.size ≤ w3.heap.size by omega))
          have HR4 := hide hr4
          have hsz4 := hk4.size
          have HB4 := hide (HB3.out.trans (hk4.below (by omega) HB3.out.size))
          clear hr4 hk4 hblk4 hov HR3 HX3 HRES3
          have hXlt := lt_of_block HX4.out.x
          have dX0 : w4.cell? ⟨w1.heap.size + 1, 0, none⟩ = some (.slice aR LR.length cR) := cell_of_block HX4.out.x 0
          have hne := own_ne HX4.out.r.own HX4.out.x (by decide)
          have hne2 := own_ne HX4.out.r.own HRES4.out (by decide)
          have hap := HR4.out.apart HX4.out.r.own (by decide) (by decide)
          have hsr := lt_of_block HRES4.out
          go_wp2_with (at_builtin; refine wpList_append_own _ rfl _ _ 59 rfl w.heap.size 92 iR _ 2 40 Tryz.underlying59 hiR zR0 zR1 zR2 rfl (by decide) _ _ _ rfl ((HX4.out.r.own.alloc _).alloc _) ⟨w4.heap.size + 1, 0, none⟩ 1 1 [.string el.1.name, .slice aV el.1.inc.length cV] rfl rfl (cells_new' _ _ _ _ (by simp)) (one2 rfl rfl) (by unfold maxLen; omega) (by omega) (by simp; omega) ?_; intro v' x3 hown' hgrow _; obtain ⟨a', cap', hv'⟩ := own_slice hown'; subst hv'; have hX5 := grown_at hgrow (((two_below w4 _ _).block _ hXlt).trans HX4.out.x) hne; have hc5 := (cell_of_block hX5 0 : x3.cell? ⟨w1.heap.size + 1, 0, none⟩ = some (.slice aR LR.length cR)); have hf5 := frozen_of_block hX5 0; have HX5 := hide hX5; clear hX5)
          have HXN := hide (HX4.out.addR (e := (el.1, .slice aV el.1.inc.length cV)) (two_below _ _ _) hgrow hown' rfl HOV.out)
          have HRN := hide ((HR4.out.grown2 hgrow hap).set HX5.out (by decide) (by decide) 0 (.slice a' (LR.length + 1) cap'))
          have HSN := hide (set_other_at (grown_at hgrow (((two_below w4 _ _).block _ hsr).trans HRES4.out) hne2) (show w.heap.size ≠ w1.heap.size + 1 by omega) 0 (.slice a' (LR.length + 1) cap'))
          have HBN := hide ((Below.grown (HB4.out.trans ((two_below w4 _ _).mono HB4.out.size)) hgrow (Nat.le_trans HB4.out.size (two_below w4 _ _).size) (fun k hk => (HX4.out.r.own.lt k hk).1)).setCell (p := ⟨w1.heap.size + 1, 0, none⟩) (show w.heap.size ≤ w1.heap.size + 1 by omega) (.slice a' (LR.length + 1) cap'))
          go_roundg (ln el.2)
          case measure => omega
          case rel => exact ⟨⟨c.roles ++ [el.1], c.defs⟩, el.2, f', _, _, LR ++ [(el.1, .slice aV el.1.inc.length cV)], LD, Nat.le_refl _, by omega, HRN.out, HXN.out, HSN.out, by rw [List.map_append, HMR.out]; rfl, HMD.out, by rw [List.length_append]; simp only [List.length_cons, List.length_nil]; omega, fun r hr => by
            rcases List.mem_append.1 hr with h | h
            · exact HINC.out r h
            · rw [List.mem_singleton] at h; subst h; exact hvl, HBN.out, HE.out⟩
        · by_cases e2 : nm s' = bType
          · have HQ := hide (show rDef c s' = (⟨c.roles, c.defs ++ [(rObject (nmT s')).1]⟩, (rObject (nmT s')).2) from by unfold rDef; rw [if_neg e1, if_pos e2])
            rw [decide_eq_false (show ¬ nm s' = ofB _ from e1)] at L1
            rw [decide_eq_true (show nm s' = ofB _ from e2)] at L2
            clear e1 e2 L3 L4
            generalize nm s' = n0 at *
            generalize nmT s' = s1 at *
            rw [HQ.out] at HE hl2
            dsimp only at HE hl2
            have hcl := object_any w3 w1.heap.size _ ts s1 HR3.out
            have HSO := hide (show (rObject s1).1.sort = 0 from rfl)
            generalize rObject s1 = el at *
            go_wp2_with fail
            refine hcl.mono ?_
            clear hcl
            rintro e w4 ⟨vF, vA, vT, rfl, hoF, hoA, hoT, hr4, hk4⟩
            obtain ⟨aF, cF, hv⟩ := own_slice hoF
            subst hv
            obtain ⟨aA, cA, hv⟩ := own_slice hoA
            subst hv
            obtain ⟨aT, cT, hv⟩ := hoT.slice
            subst hv
            obtain ⟨a4, b4, hblk4, _, _⟩ := HR3.out.st
            have HX4 := hide (HX3.out.keep hk4 hblk4)
            have HRES4 := hide (hk4.at HRES3.out (by omega))
            have HOV := hide (And.intro (ownsRow_lower hoF (show w.heap.size ≤ w3.heap.size by omega)) (And.intro (ownsRow_lower hoA (show w.heap.size ≤ w3.heap.size by omega)) hoT))
            have HR4 := hide hr4
            have hsz4 := hk4.size
            have HB4 := hide (HB3.out.trans (hk4.below (by omega) HB3.out.size))
            clear hr4 hk4 hblk4 hoF hoA hoT HR3 HX3 HRES3
            have hXlt := lt_of_block HX4.out.x
            have dX1 : w4.cell? ⟨w1.heap.size + 1, 1, none⟩ = some (.slice aD LD.length cD) := cell_of_block HX4.out.x 1
            have hne := own_ne HX4.out.d.own HX4.out.x (by decide)
            have hne2 := own_ne HX4.out.d.own HRES4.out (by decide)
            have hap := HR4.out.apart HX4.out.d.own (by decide) (by decide)
            have hsr := lt_of_block HRES4.out
            go_wp2_with (at_builtin; refine wpList_append_own _ rfl _ _ 60 rfl w.heap.size 96 iD _ 6 104 Tryz.underlying60 hiD zD0 zD1 zD2 rfl (by decide) _ _ _ rfl ((HX4.out.d.own.alloc _).alloc _) ⟨w4.heap.size + 1, 0, none⟩ 1 1 [.int .i64 0, .string el.1.name, .slice aF el.1.fields.length cF, .slice aA el.1.above.length cA, .bool el.1.ruled, .slice aT el.1.rule.length cT] rfl rfl (cells_new' _ _ _ _ (by simp)) (one6 rfl rfl rfl rfl rfl rfl) (by unfold maxLen; omega) (by omega) (by simp; omega) ?_; intro v' x3 hown' hgrow _; obtain ⟨a', cap', hv'⟩ := own_slice hown'; subst hv'; have hX5 := grown_at hgrow (((two_below w4 _ _).block _ hXlt).trans HX4.out.x) hne; have hc5 := (cell_of_block hX5 1 : x3.cell? ⟨w1.heap.size + 1, 1, none⟩ = some (.slice aD LD.length cD)); have hf5 := frozen_of_block hX5 1; have HX5 := hide hX5; clear hX5)
            have HXN := hide (HX4.out.addD (e := (el.1, .slice aF el.1.fields.length cF, .slice aA el.1.above.length cA, .slice aT el.1.rule.length cT)) (two_below w4 _ _) hgrow hown' (by unfold flD; dsimp only; rw [HSO.out]; rfl) (HOV.out))
            have HRN := hide ((HR4.out.grown2 hgrow hap).set HX5.out (by decide) (by decide) 1 (.slice a' (LD.length + 1) cap'))
            have HSN := hide (set_other_at (grown_at hgrow (((two_below w4 _ _).block _ hsr).trans HRES4.out) hne2) (show w.heap.size ≠ w1.heap.size + 1 by omega) 1 (.slice a' (LD.length + 1) cap'))
            have HBN := hide ((Below.grown (HB4.out.trans ((two_below w4 _ _).mono HB4.out.size)) hgrow (Nat.le_trans HB4.out.size (two_below w4 _ _).size) (fun k hk => (HX4.out.d.own.lt k hk).1)).setCell (p := ⟨w1.heap.size + 1, 1, none⟩) (show w.heap.size ≤ w1.heap.size + 1 by omega) (.slice a' (LD.length + 1) cap'))
            go_roundg (ln el.2)
            case measure => omega
            case rel => exact ⟨⟨c.roles, c.defs ++ [el.1]⟩, el.2, f', _, _, LR, LD ++ [(el.1, .slice aF el.1.fields.length cF, .slice aA el.1.above.length cA, .slice aT el.1.rule.length cT)], Nat.le_refl _, by omega, HRN.out, HXN.out, HSN.out, HMR.out, by rw [List.map_append, HMD.out]; rfl, by rw [List.length_append]; simp only [List.length_cons, List.length_nil]; omega, HINC.out, HBN.out, HE.out⟩
          · by_cases e3 : nm s' = bIface
            · have HQ := hide (show rDef c s' = (⟨c.roles, c.defs ++ [⟨1, nm (nmT s'), (rFields (nmT (nmT s'))).1, [], false, []⟩]⟩, (rFields (nmT (nmT s'))).2) from by unfold rDef; rw [if_neg e1, if_neg e2, if_pos e3])
              rw [decide_eq_false (show ¬ nm s' = ofB _ from e1)] at L1
              rw [decide_eq_false (show ¬ nm s' = ofB _ from e2)] at L2
              rw [decide_eq_true (show nm s' = ofB _ from e3)] at L3
              clear e1 e2 e3 L4
              generalize nm s' = n0 at *
              generalize nmT s' = s1 at *
              rw [HQ.out] at HE hl2
              dsimp only at HE hl2
              have hcl := name_any _ w1.heap.size _ ts s1 (HR3.out.below ((Below.refl _ _).alloc (Nat.le_refl _) (.cells #[.int .i64 1, .string ⟨#[]⟩, .slice none 0 0, .slice none 0 0, .bool false, .slice none 0 0] 96)))
              have hfl := fun W h => fields_any W w1.heap.size (.slice aL ts.length capL) ts (nmT s1) h
              generalize nm s1 = n1 at *
              generalize nmT s1 = s2 at *
              generalize rFields s2 = el at *
              go_wp2_with fail
              refine hcl.mono ?_
              clear hcl
              rintro e w4 ⟨rfl, hr4, hk4⟩
              have HB4 := hide (hk4.at (one_at w3 (.cells #[.int .i64 1, .string ⟨#[]⟩, .slice none 0 0, .slice none 0 0, .bool false, .slice none 0 0] 96)) (by omega))
              have hK4 : Keep w1.heap.size w3 w4 := (Keep.of_below ((Below.refl _ _).alloc (Nat.le_refl _) _)).trans hk4
              have cY : w4.cell? ⟨w3.heap.size, 1, none⟩ = some (.string ⟨#[]⟩) := cell_of_block HB4.out 1
              have cYf := frozen_of_block HB4.out 1
              go_wp2_with fail
              have hr5 := hr4.set HB4.out (by decide) (by decide) 1 (.string n1)
              have HB5 := hide (show (w4.setCell ⟨w3.heap.size, 1, none⟩ (.string n1)).heap[w3.heap.size]? = some (.cells #[.int .i64 1, .string n1, .slice none 0 0, .slice none 0 0, .bool false, .slice none 0 0] 96 (0, 0)) from setCell_block HB4.out 1 _)
              have hK5 := hK4.setNew ⟨w3.heap.size, 1, none⟩ (Nat.le_refl _) (.string n1)
              clear cY cYf HB4 hK4 hr4 hk4
              generalize w4.setCell ⟨w3.heap.size, 1, none⟩ (.string n1) = w5 at *
              refine (hfl w5 hr5).mono ?_
              clear hfl
              rintro e w6 ⟨vF, rfl, hoF, hnF, hr6, hk6⟩
              obtain ⟨aF, cF, hv⟩ := own_slice hoF
              subst hv
              have HB6 := hide (hk6.at HB5.out (by omega))
              have hK6 := hK5.trans hk6
              have hz5 := hK5.size
              have cY : w6.cell? ⟨w3.heap.size, 2, none⟩ = some (.slice none 0 0) := cell_of_block HB6.out 2
              have cYf := frozen_of_block HB6.out 2
              go_upto_region 18 with fail
              have HR4 := hide (hr6.set HB6.out (by decide) (by decide) 2 (.slice aF el.1.length cF))
              have HB7 := hide (show (w6.setCell ⟨w3.heap.size, 2, none⟩ (.slice aF el.1.length cF)).heap[w3.heap.size]? = some (.cells #[.int .i64 1, .string n1, .slice aF el.1.length cF, .slice none 0 0, .bool false, .slice none 0 0] 96 (0, 0)) from setCell_block HB6.out 2 _)
              have hK7 := hK6.setNew ⟨w3.heap.size, 2, none⟩ (Nat.le_refl _) (.slice aF el.1.length cF)
              have HOV := hide (ownsRow_lower (ownsRow_keep hoF ((Keep.refl w3.heap.size w6).setCell 2 (.slice aF el.1.length cF)) HB6.out (by decide)) (show w.heap.size ≤ w5.heap.size by omega))
              clear cY cYf HB6 HB5 hK6 hK5 hr6 hk6 hr5 hoF
              generalize w6.setCell ⟨w3.heap.size, 2, none⟩ (.slice aF el.1.length cF) = w7 at *
              obtain ⟨a4, b4, hblk4, _, _⟩ := HR3.out.st
              have HX4 := hide (HX3.out.keep hK7 hblk4)
              have HRES4 := hide (hK7.at HRES3.out (by omega))
              have hsz4 := hK7.size
              have HB4 := hide (HB3.out.trans (hK7.below (by omega) HB3.out.size))
              clear hblk4 hK7 HR3 HX3 HRES3
              have y0 : w7.cell? ⟨w3.heap.size, 0, none⟩ = some (.int .i64 1) := cell_of_block HB7.out 0
              have y1 : w7.cell? ⟨w3.heap.size, 1, none⟩ = some (.string n1) := cell_of_block HB7.out 1
              have y2 : w7.cell? ⟨w3.heap.size, 2, none⟩ = some (.slice aF el.1.length cF) := cell_of_block HB7.out 2
              have y3 : w7.cell? ⟨w3.heap.size, 3, none⟩ = some (.slice none 0 0) := cell_of_block HB7.out 3
              have y4 : w7.cell? ⟨w3.heap.size, 4, none⟩ = some (.bool false) := cell_of_block HB7.out 4
              have y5 : w7.cell? ⟨w3.heap.size, 5, none⟩ = some (.slice none 0 0) := cell_of_block HB7.out 5
              have hXlt := lt_of_block HX4.out.x
              have dX1 : w7.cell? ⟨w1.heap.size + 1, 1, none⟩ = some (.slice aD LD.length cD) := cell_of_block HX4.out.x 1
              have hne := own_ne HX4.out.d.own HX4.out.x (by decide)
              have hne2 := own_ne HX4.out.d.own HRES4.out (by decide)
              have hap := HR4.out.apart HX4.out.d.own (by decide) (by decide)
              have hsr := lt_of_block HRES4.out
              go_wp2_with (at_builtin; refine wpList_append_own _ rfl _ _ 60 rfl w.heap.size 96 iD _ 6 104 Tryz.underlying60 hiD zD0 zD1 zD2 rfl (by decide) _ _ _ rfl (HX4.out.d.own.alloc _) ⟨w7.heap.size, 0, none⟩ 1 1 [.int .i64 1, .string n1, .slice aF el.1.length cF, .slice none 0 0, .bool false, .slice none 0 0] rfl rfl (cells_new' _ _ _ _ (by simp)) (one6 rfl rfl rfl rfl rfl rfl) (by unfold maxLen; omega) (by omega) (by simp; omega) ?_; intro v' x3 hown' hgrow _; obtain ⟨a', cap', hv'⟩ := own_slice hown'; subst hv'; have hX5 := grown_at hgrow ((((Below.refl w7.heap.size w7).alloc (Nat.le_refl _) _).block _ hXlt).trans HX4.out.x) hne; have hc5 := (cell_of_block hX5 1 : x3.cell? ⟨w1.heap.size + 1, 1, none⟩ = some (.slice aD LD.length cD)); have hf5 := frozen_of_block hX5 1; have HX5 := hide hX5; clear hX5)
              have HXN := hide (HX4.out.addD (e := (⟨1, n1, el.1, [], false, []⟩, .slice aF el.1.length cF, .slice none 0 0, .slice none 0 0)) ((Below.refl w7.heap.size w7).alloc (Nat.le_refl _) _) hgrow hown' (by rfl) (⟨HOV.out, World.ownsRow_nil _ _ _ _, Or.inl ⟨rfl, rfl⟩⟩))
              have HRN := hide ((HR4.out.grown1 hgrow hap).set HX5.out (by decide) (by decide) 1 (.slice a' (LD.length + 1) cap'))
              have HSN := hide (set_other_at (grown_at hgrow ((((Below.refl w7.heap.size w7).alloc (Nat.le_refl _) _).block _ hsr).trans HRES4.out) hne2) (show w.heap.size ≠ w1.heap.size + 1 by omega) 1 (.slice a' (LD.length + 1) cap'))
              have HBN := hide ((Below.grown (HB4.out.trans (((Below.refl w7.heap.size w7).alloc (Nat.le_refl _) _).mono HB4.out.size)) hgrow (Nat.le_trans HB4.out.size ((Below.refl w7.heap.size w7).alloc (Nat.le_refl _) _).size) (fun k hk => (HX4.out.d.own.lt k hk).1)).setCell (p := ⟨w1.heap.size + 1, 1, none⟩) (show w.heap.size ≤ w1.heap.size + 1 by omega) (.slice a' (LD.length + 1) cap'))
              go_roundg (ln el.2)
              case measure => omega
              case rel => exact ⟨⟨c.roles, c.defs ++ [⟨1, n1, el.1, [], false, []⟩]⟩, el.2, f', _, _, LR, LD ++ [(⟨1, n1, el.1, [], false, []⟩, .slice aF el.1.length cF, .slice none 0 0, .slice none 0 0)], Nat.le_refl _, by omega, HRN.out, HXN.out, HSN.out, HMR.out, by rw [List.map_append, HMD.out]; rfl, by rw [List.length_append]; simp only [List.length_cons, List.length_nil]; omega, HINC.out, HBN.out, HE.out⟩
            · by_cases e4 : nm s' = bUnion'
              · have HQ := hide (show rDef c s' = (⟨c.roles, c.defs ++ [(rUnion (nmT s')).1]⟩, (rUnion (nmT s')).2) from by unfold rDef; rw [if_neg e1, if_neg e2, if_neg e3, if_pos e4])
                rw [decide_eq_false (show ¬ nm s' = ofB _ from e1)] at L1
                rw [decide_eq_false (show ¬ nm s' = ofB _ from e2)] at L2
                rw [decide_eq_false (show ¬ nm s' = ofB _ from e3)] at L3
                rw [decide_eq_true (show nm s' = ofB _ from e4)] at L4
                clear e1 e2 e3 e4
                generalize nm s' = n0 at *
                generalize nmT s' = s1 at *
                rw [HQ.out] at HE hl2
                dsimp only at HE hl2
                have hcl := union_any w3 w1.heap.size _ ts s1 HR3.out
                have HSO := hide (show (rUnion s1).1.sort = 2 ∧ (rUnion s1).1.fields = [] ∧ (rUnion s1).1.ruled = false ∧ (rUnion s1).1.rule = [] from ⟨rfl, rfl, rfl, rfl⟩)
                generalize rUnion s1 = el at *
                go_wp2_with fail
                refine hcl.mono ?_
                clear hcl
                rintro e w4 ⟨vA, rfl, hoA, hnA, hr4, hk4⟩
                obtain ⟨aA, cA, hv⟩ := own_slice hoA
                subst hv
                obtain ⟨a4, b4, hblk4, _, _⟩ := HR3.out.st
                have HX4 := hide (HX3.out.keep hk4 hblk4)
                have HRES4 := hide (hk4.at HRES3.out (by omega))
                have HOV := hide (ownsRow_lower hoA (show w.heap.size ≤ w3.heap.size by omega))
                have HR4 := hide hr4
                have hsz4 := hk4.size
                have HB4 := hide (HB3.out.trans (hk4.below (by omega) HB3.out.size))
                clear hr4 hk4 hblk4 hoA HR3 HX3 HRES3
                have hXlt := lt_of_block HX4.out.x
                have dX1 : w4.cell? ⟨w1.heap.size + 1, 1, none⟩ = some (.slice aD LD.length cD) := cell_of_block HX4.out.x 1
                have hne := own_ne HX4.out.d.own HX4.out.x (by decide)
                have hne2 := own_ne HX4.out.d.own HRES4.out (by decide)
                have hap := HR4.out.apart HX4.out.d.own (by decide) (by decide)
                have hsr := lt_of_block HRES4.out
                go_wp2_with (at_builtin; refine wpList_append_own _ rfl _ _ 60 rfl w.heap.size 96 iD _ 6 104 Tryz.underlying60 hiD zD0 zD1 zD2 rfl (by decide) _ _ _ rfl ((HX4.out.d.own.alloc _).alloc _) ⟨w4.heap.size + 1, 0, none⟩ 1 1 [.int .i64 2, .string el.1.name, .slice none 0 0, .slice aA el.1.above.length cA, .bool false, .slice none 0 0] rfl rfl (cells_new' _ _ _ _ (by simp)) (one6 rfl rfl rfl rfl rfl rfl) (by unfold maxLen; omega) (by omega) (by simp; omega) ?_; intro v' x3 hown' hgrow _; obtain ⟨a', cap', hv'⟩ := own_slice hown'; subst hv'; have hX5 := grown_at hgrow (((two_below w4 _ _).block _ hXlt).trans HX4.out.x) hne; have hc5 := (cell_of_block hX5 1 : x3.cell? ⟨w1.heap.size + 1, 1, none⟩ = some (.slice aD LD.length cD)); have hf5 := frozen_of_block hX5 1; have HX5 := hide hX5; clear hX5)
                have HXN := hide (HX4.out.addD (e := (el.1, .slice none 0 0, .slice aA el.1.above.length cA, .slice none 0 0)) (two_below w4 _ _) hgrow hown' (by unfold flD; dsimp only; rw [HSO.out.1, HSO.out.2.2.1]; rfl) (⟨by rw [HSO.out.2.1]; exact World.ownsRow_nil _ _ _ _, HOV.out, Or.inl ⟨rfl, HSO.out.2.2.2⟩⟩))
                have HRN := hide ((HR4.out.grown2 hgrow hap).set HX5.out (by decide) (by decide) 1 (.slice a' (LD.length + 1) cap'))
                have HSN := hide (set_other_at (grown_at hgrow (((two_below w4 _ _).block _ hsr).trans HRES4.out) hne2) (show w.heap.size ≠ w1.heap.size + 1 by omega) 1 (.slice a' (LD.length + 1) cap'))
                have HBN := hide ((Below.grown (HB4.out.trans ((two_below w4 _ _).mono HB4.out.size)) hgrow (Nat.le_trans HB4.out.size (two_below w4 _ _).size) (fun k hk => (HX4.out.d.own.lt k hk).1)).setCell (p := ⟨w1.heap.size + 1, 1, none⟩) (show w.heap.size ≤ w1.heap.size + 1 by omega) (.slice a' (LD.length + 1) cap'))
                go_roundg (ln el.2)
                case measure => omega
                case rel => exact ⟨⟨c.roles, c.defs ++ [el.1]⟩, el.2, f', _, _, LR, LD ++ [(el.1, .slice none 0 0, .slice aA el.1.above.length cA, .slice none 0 0)], Nat.le_refl _, by omega, HRN.out, HXN.out, HSN.out, HMR.out, by rw [List.map_append, HMD.out]; rfl, by rw [List.length_append]; simp only [List.length_cons, List.length_nil]; omega, HINC.out, HBN.out, HE.out⟩
              · have HQ := hide (show rDef c s' = (c, none) from by unfold rDef; rw [if_neg e1, if_neg e2, if_neg e3, if_neg e4])
                rw [decide_eq_false (show ¬ nm s' = ofB _ from e1)] at L1
                rw [decide_eq_false (show ¬ nm s' = ofB _ from e2)] at L2
                rw [decide_eq_false (show ¬ nm s' = ofB _ from e3)] at L3
                rw [decide_eq_false (show ¬ nm s' = ofB _ from e4)] at L4
                clear e1 e2 e3 e4
                generalize nm s' = n0 at *
                generalize nmT s' = s1 at *
                rw [HQ.out] at HE
                dsimp only at HE
                obtain ⟨⟨qq, cq⟩, fq, hn⟩ := HR3.out.fail
                obtain ⟨a4, b4, hblk4, _, _⟩ := HR3.out.st
                have HXN := hide (HX3.out.keep ((Keep.refl w1.heap.size w3).setCell 2 (.bool true)) hblk4)
                have HSN := hide (set_other_at HRES3.out (show w.heap.size ≠ w1.heap.size by omega) 2 (.bool true))
                have HRN := hide hn
                have HBN := hide (HB3.out.trans (((Keep.refl w1.heap.size w3).setCell 2 (.bool true)).below (by omega) HB3.out.size))
                clear hblk4 hn
                go_wp2_with fail
                go_roundg 0
                case measure => omega
                case rel => exact ⟨c, none, f', _, _, LR, LD, Nat.le_refl _, Nat.zero_le _, HRN.out, HXN.out, HSN.out, HMR.out, HMD.out, by show LR.length + LD.length + 0 ≤ 802; omega, HINC.out, HBN.out, HE.out⟩
end Go.Proofs.YtpggfgjongkihaaGreat
