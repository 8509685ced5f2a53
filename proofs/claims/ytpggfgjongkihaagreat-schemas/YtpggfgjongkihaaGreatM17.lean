/- The program's parser: in memory; readType. -/
import Derived.Test.YtpggfgjongkihaaGreatM16
import Derived.Test.YtpggfgjongkihaaGreatM06
namespace Go.Proofs.YtpggfgjongkihaaGreat
open Go.RowKit
/-- the parser at block p: the reader's block, the schema's -/
def PP (w : World) (p b S : Nat) : Prop := w.heap[p]? = some (.cells #[.pointer (some ⟨b, 0, none⟩), .pointer (some ⟨S, 0, none⟩)] 135 (0, 0))
theorem PP.lt {w : World} {p b S : Nat} (h : PP w p b S) : p < w.heap.size := lt_of_block h
theorem PP.c0 {w : World} {p b S : Nat} (h : PP w p b S) : w.cell? ⟨p, 0, none⟩ = some (.pointer (some ⟨b, 0, none⟩)) := cell_of_block h 0
theorem PP.c1 {w : World} {p b S : Nat} (h : PP w p b S) : w.cell? ⟨p, 1, none⟩ = some (.pointer (some ⟨S, 0, none⟩)) := cell_of_block h 1
theorem PP.below {w w' : World} {p b S : Nat} (h : PP w p b S) (hb : Below w.heap.size w w') : PP w' p b S := by
  unfold PP at *; rw [hb.block p (lt_of_block h)]; exact h
theorem PP.alloc {w : World} {p b S : Nat} (h : PP w p b S) (o : Obj) : PP (w.alloc o) p b S := h.below ((Below.refl _ _).alloc (Nat.le_refl _) _)
theorem PP.keepF {w w' : World} {p b S F : Nat} (h : PP w p b S) (hk : Keep F w w') (hF : p ≠ F) : PP w' p b S := by
  unfold PP at *; rw [hk.block p (lt_of_block h) hF]; exact h
theorem PP.ne {w : World} {p b S F : Nat} {cs : Array Value} {T : TypeId} {fr : Nat × Nat} (h : PP w p b S) (hF : w.heap[F]? = some (.cells cs T fr)) (hT : T ≠ 135) : p ≠ F := fun e => by
  subst e; unfold PP at h; rw [h] at hF; cases hF; exact hT rfl
theorem PP.keep {w w' : World} {p b S G : Nat} {s : St} (h : PP w p b S) (hs : PS w b G s) (hk : Keep b w w') : PP w' p b S := by
  obtain ⟨c, hc⟩ := hs.ty
  exact h.keepF hk (h.ne hc (by decide))
theorem PP.set {w : World} {p b S F : Nat} {cs : Array Value} {T : TypeId} {fr : Nat × Nat} (h : PP w p b S) (hF : w.heap[F]? = some (.cells cs T fr)) (hT : T ≠ 135) (i : Nat) (v : Value) : PP (w.setCell ⟨F, i, none⟩ v) p b S :=
  h.keepF ((Keep.refl F w).setCell i v) (h.ne hF hT)
theorem PS.stay {T : TypeId} {B : Nat} {w w' : World} {b G : Nat} {s : St} (h : PS w b G s) (hk : Keep b w w') (hT : T ≠ 193 := by decide) : Stay T B w w' := by
  obtain ⟨c, hc⟩ := h.ty
  exact Stay.of_keep hk hc (fun e => hT e.symm)
set_option maxHeartbeats 1000000 in
theorem readType_f : ∀ (f : Nat) (w : World) (p b S G : Nat) (s : St), ln s ≤ f → PP w p b S → PS w b G s →
    Calls Tryz.prog 197 #[.pointer (some ⟨p, 0, none⟩)] w fun e w' => ∃ k, e = .returned (.pointer (some ⟨k, 0, none⟩)) ∧ TyAt w' w.heap.size (.pointer (some ⟨k, 0, none⟩)) (pType (f + 1) s).1 ∧ PS w' b G (pType (f + 1) s).2 ∧ Keep b w w' := by
  intro f
  induction f using Nat.strongRecOn with
  | _ f ih =>
  intro w p b S G s hl hP h
  have hlt := h.lt
  have hgl := h.glt
  have hpl := hP.lt
  have h0 : PS (w.alloc (.cells #[.string ⟨#[]⟩, .int .i64 0, .pointer none, .bool false] 257)) b G s := h.alloc _
  have P0 : PP (w.alloc (.cells #[.string ⟨#[]⟩, .int .i64 0, .pointer none, .bool false] 257)) p b S := hP.alloc _
  have N0 : (w.alloc (.cells #[.string ⟨#[]⟩, .int .i64 0, .pointer none, .bool false] 257)).heap[w.heap.size]? = some (.cells #[.string ⟨#[]⟩, .int .i64 0, .pointer none, .bool false] 257 (0, 0)) := heap_alloc_new w _
  have K0 : Keep b w (w.alloc (.cells #[.string ⟨#[]⟩, .int .i64 0, .pointer none, .bool false] 257)) := (Keep.refl b w).alloc _
  have hc := take_any _ b G s 12 h0
  have c0 := P0.c0
  have cp := hP.c0
  cases hx : isK s 12
  · rw [hx] at hc
    rw [show pType (f + 1) s = (.one (nm s) (isK (nmT s) 5), mayT (nmT s) (isK (nmT s) 5)) from by simp [pType, hx]]
    have H0 := hide h0
    have HP0 := hide P0
    have HN0 := hide N0
    clear h0 P0 N0 hP h ih
    go_enter Tryz.func197, Tryz.ntmps197
    go_wp2_with fail
    refine hc.mono ?_
    clear hc
    rintro e w1 ⟨rfl, h1, k1⟩
    have P1 := HP0.out.keep H0.out k1
    have N1 := k1.at HN0.out (by omega)
    have c1 := P1.c0
    have hn := needName_any w1 b G s h1
    have K1 := hide (K0.trans k1)
    have H1 := hide h1
    have HP1 := hide P1
    have HN1 := hide N1
    clear H0 HP0 HN0 c0 k1 h1 P1 N1 K0
    go_wp2_with fail
    refine hn.mono ?_
    clear hn
    rintro e w2 ⟨rfl, h2, k2⟩
    have P2 := HP1.out.keep H1.out k2
    have N2 := k2.at HN1.out (by omega)
    have c2 := P2.c0
    have f2 := frozen_of_block N2 0
    have c20 : w2.cell? ⟨w.heap.size, 0, none⟩ = some (.string ⟨#[]⟩) := cell_of_block N2 0
    have h3 := h2.set (F := w.heap.size) (by omega) (by omega) 0 (.string (nm s))
    have P3 := P2.set N2 (by decide) 0 (.string (nm s))
    have N3 := setCell_block N2 0 (.string (nm s))
    have ht := take_any _ b G (nmT s) 5 h3
    have K2 := hide ((K1.out.trans k2).setNew ⟨w.heap.size, 0, none⟩ (Nat.le_refl _) (.string (nm s)))
    have HN3 := hide N3
    have hsz := lt_of_block N2
    have hpn : p ≠ w.heap.size := by omega
    clear H1 HP1 HN1 c1 k2 h2 P2 N2 P3 h3 K1 N3
    go_wp2_with fail
    refine ht.mono ?_
    clear ht
    rintro e w3 ⟨rfl, h4, k3⟩
    have N4 := k3.at HN3.out (by omega)
    have f4 := frozen_of_block N4 3
    have c43 : w3.cell? ⟨w.heap.size, 3, none⟩ = some (.bool false) := cell_of_block N4 3
    have HN4 := hide N4
    have H4 := hide h4
    have K4 := hide (K2.out.trans k3)
    clear N4 HN3 h4 k3 K2 f2 c20 c2
    go_wp2_with fail
    go_ret
    exact ⟨_, rfl, ⟨_, rfl, Nat.le_refl _, setCell_block HN4.out 3 _⟩, H4.out.set (by omega) (by omega) _ _, K4.out.setNew _ (Nat.le_refl _) _⟩
  · rw [hx] at hc
    obtain ⟨f', rfl⟩ : ∃ f', f = f' + 1 := ⟨f - 1, by have := ln_tl_lt s 12 (by decide) hx; omega⟩
    have hl' : ln (tl s) ≤ f' := by have := ln_tl_lt s 12 (by decide) hx; omega
    rw [show pType (f' + 1 + 1) s = (.list (pType (f' + 1) (tl s)).1 (isK (mustT (pType (f' + 1) (tl s)).2 (isK (pType (f' + 1) (tl s)).2 13)) 5), mayT (mustT (pType (f' + 1) (tl s)).2 (isK (pType (f' + 1) (tl s)).2 13)) (isK (mustT (pType (f' + 1) (tl s)).2 (isK (pType (f' + 1) (tl s)).2 13)) 5)) from by rw [pType, if_pos hx]]
    have ih := fun W P h => ih f' (by omega) W p b S G (tl s) hl' P h
    generalize (pType (f' + 1) (tl s)).1 = ty at *
    generalize (pType (f' + 1) (tl s)).2 = s1 at *
    have H0 := hide h0
    have HP0 := hide P0
    have HN0 := hide N0
    clear h0 P0 N0 hP h
    go_enter Tryz.func197, Tryz.ntmps197
    go_wp2_with fail
    refine hc.mono ?_
    clear hc
    rintro e w1 ⟨rfl, h1, k1⟩
    have P1 := HP0.out.keep H0.out k1
    have N1 := k1.at HN0.out (by omega)
    have c1 := P1.c0
    have f1 := frozen_of_block N1 1
    have c11 : w1.cell? ⟨w.heap.size, 1, none⟩ = some (.int .i64 0) := cell_of_block N1 1
    have h2 : PS (w1.setCell ⟨w.heap.size, 1, none⟩ (.int .i64 1)) b G (tl s) := h1.set (by omega) (by omega) 1 (.int .i64 1)
    have P2 := P1.set N1 (by decide) 1 (.int .i64 1)
    have N2 := setCell_block N1 1 (.int .i64 1)
    have K2 := hide ((K0.trans k1).setNew ⟨w.heap.size, 1, none⟩ (Nat.le_refl _) (.int .i64 1))
    have hn := ih _ P2 h2
    have hpn : p ≠ w.heap.size := by omega
    have hsz := lt_of_block N1
    have H2 := hide h2
    have HP2 := hide P2
    have HN2 := hide N2
    clear H0 HP0 HN0 c0 k1 h1 P1 N1 h2 P2 N2 ih K0
    go_wp2_with fail
    refine hn.mono ?_
    clear hn
    rintro e w3 ⟨k, rfl, t3, h3, k3⟩
    have P3 := HP2.out.keep H2.out k3
    have N3 := k3.at HN2.out (by omega)
    have c3 := P3.c0
    have f3 := frozen_of_block N3 2
    have c32 : w3.cell? ⟨w.heap.size, 2, none⟩ = some (.pointer none) := cell_of_block N3 2
    have hsz3 := lt_of_block N3
    have t4 := (t3.mono (C := w.heap.size + 1) (by simp [World.setCell]; omega)).stays (Stay.set (F := w.heap.size) (by omega) 2 (.pointer (some ⟨k, 0, none⟩)))
    have h4 := h3.set (F := w.heap.size) (by omega) (by omega) 2 (.pointer (some ⟨k, 0, none⟩))
    have P4 := P3.set N3 (by decide) 2 (.pointer (some ⟨k, 0, none⟩))
    have N4 := setCell_block N3 2 (.pointer (some ⟨k, 0, none⟩))
    have K4 := hide ((K2.out.trans k3).setNew ⟨w.heap.size, 2, none⟩ (Nat.le_refl _) (.pointer (some ⟨k, 0, none⟩)))
    have hm := need_any _ b G _ 13 h4
    have HT4 := hide t4
    have H4 := hide h4
    have HP4 := hide P4
    have HN4 := hide N4
    clear K2 HP2 HN2 k3 h3 P3 N3 t3 t4 h4 P4 N4 c1 f1 c11 hsz H2
    go_wp2_with fail
    refine hm.mono ?_
    clear hm
    rintro e w5 ⟨rfl, h5, k5⟩
    have P5 := HP4.out.keep H4.out k5
    have N5 := k5.at HN4.out (by omega)
    have c5 := P5.c0
    have ht := take_any _ b G _ 5 h5
    have t5 := HT4.out.stays (H4.out.stay k5)
    have K5 := hide (K4.out.trans k5)
    have H5 := hide h5
    have HN5 := hide N5
    have HT5 := hide t5
    clear K4 H4 HP4 HN4 k5 h5 P5 N5 t5 HT4 f3 c32 c3
    go_wp2_with fail
    refine ht.mono ?_
    clear ht
    rintro e w6 ⟨rfl, h6, k6⟩
    have N6 := k6.at HN5.out (by omega)
    have f6 := frozen_of_block N6 3
    have c63 : w6.cell? ⟨w.heap.size, 3, none⟩ = some (.bool false) := cell_of_block N6 3
    have HT6 := hide (HT5.out.stays (H5.out.stay k6))
    have HN6 := hide N6
    have H6 := hide h6
    have K6 := hide (K5.out.trans k6)
    clear N6 HN5 h6 k6 K5 c5 H5 HT5
    go_wp2_with fail
    go_ret
    exact ⟨_, rfl, ⟨_, _, rfl, Nat.le_refl _, setCell_block HN6.out 3 _, (HT6.out.stays (Stay.set (F := w.heap.size) (Nat.lt_succ_self _) _ _)).mono (Nat.le_succ _)⟩, H6.out.set (F := w.heap.size) (by omega) (by omega) _ _, K6.out.setNew _ (Nat.le_refl _) _⟩
end Go.Proofs.YtpggfgjongkihaaGreat
