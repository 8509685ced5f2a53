/- The program's reader: Sees, SeesWord. The program's reader: Next. -/
import Derived.Test.YtpggfgjongkihaaGreatM14
import Derived.Test.YtpggfgjongkihaaGreatM05
namespace Go.Proofs.YtpggfgjongkihaaGreat
open Go.RowKit
theorem run_field0 (k n : Int) (y : ByteArray) (w : World) : (Instr.field 223 (.agg #[.int .i64 k, .string y, .int .i64 n]) 0).run Tryz.prog w = .ok (.int .i64 k) w := by kernel_rfl
theorem run_field1 (k n : Int) (y : ByteArray) (w : World) : (Instr.field 223 (.agg #[.int .i64 k, .string y, .int .i64 n]) 1).run Tryz.prog w = .ok (.string y) w := by kernel_rfl
set_option maxHeartbeats 400000 in
set_option maxRecDepth 100000 in
theorem sees_any (w : World) (b G : Nat) (s : St) (K : Nat) (h : PS w b G s) :
    Calls Tryz.prog 128 #[.pointer (some ⟨b, 0, none⟩), .int .i64 K] w fun e w' => e = .returned (.bool (isK s K)) ∧ Below w.heap.size w w' := by
  have hfld := run_field0
  have hp := peekP_any w b G s h
  have HQ := hide (show isK s K = decide ((hd s).k = K) from by unfold isK; rw [Bool.eq_iff_iff]; simp)
  generalize (hd s).k = k1 at *
  generalize (hd s).s = y at *
  generalize (hd s).n = n at *
  by_cases e1 : k1 = K
  · have t : ((k1 : Int) == K) = true := by simp; omega
    go_enter Tryz.func128, Tryz.ntmps128
    go_wp2_with fail
    refine hp.mono ?_
    clear hp
    rintro e w1 ⟨rfl, hb1⟩
    go_wp2_with fail
    go_ret
    exact ⟨ret_bool (by rw [HQ.out, decide_eq_true e1]), hb1⟩
  · have t : ((k1 : Int) == K) = false := by simp; omega
    go_enter Tryz.func128, Tryz.ntmps128
    go_wp2_with fail
    refine hp.mono ?_
    clear hp
    rintro e w1 ⟨rfl, hb1⟩
    go_wp2_with fail
    go_ret
    exact ⟨ret_bool (by rw [HQ.out, decide_eq_false e1]), hb1⟩
set_option maxHeartbeats 400000 in
set_option maxRecDepth 100000 in
theorem seesWord_any (w : World) (b G : Nat) (s : St) (x : ByteArray) (h : PS w b G s) :
    Calls Tryz.prog 166 #[.pointer (some ⟨b, 0, none⟩), .string x] w fun e w' => e = .returned (.bool (isW s x)) ∧ Below w.heap.size w w' := by
  have hp := peekP_any w b G s h
  have HQ := hide (show isW s x = (decide ((hd s).k = 1) && ((hd s).s.toList == x.toList)) from by unfold isW; rw [beq_bytes]; congr 1)
  generalize (hd s).k = k1 at *
  generalize (hd s).s = y at *
  generalize (hd s).n = n at *
  by_cases e1 : k1 = 1
  · subst e1
    go_enter Tryz.func166, Tryz.ntmps166
    go_wp2_with fail
    refine hp.mono ?_
    clear hp
    rintro e w1 ⟨rfl, hb1⟩
    go_wp2_with fail
    go_ret
    exact ⟨ret_bool (by rw [HQ.out]; simp), hb1.alloc hb1.size _⟩
  · have t : ((k1 : Int) == 1) = false := by simp; omega
    go_enter Tryz.func166, Tryz.ntmps166
    go_wp2_with fail
    refine hp.mono ?_
    clear hp
    rintro e w1 ⟨rfl, hb1⟩
    go_wp2_with fail
    go_ret
    exact ⟨ret_bool (by rw [HQ.out, decide_eq_false e1]; rfl), hb1.alloc hb1.size _⟩
end Go.Proofs.YtpggfgjongkihaaGreat
namespace Go.Proofs.YtpggfgjongkihaaGreat
open Go.RowKit
set_option maxHeartbeats 1000000 in
theorem nextP_any (w : World) (b G : Nat) (s : St) (h : PS w b G s) :
    Calls Tryz.prog 165 #[.pointer (some ⟨b, 0, none⟩)] w fun e w' => e = .returned (.agg #[.int .i64 (hd s).k, .string (hd s).s, .int .i64 (hd s).n]) ∧ PS w' b G (tl s) ∧ Keep b w w' := by
  have hlt := h.lt
  have h' : PS (w.alloc (.cells #[.int .i64 0, .string ⟨#[]⟩, .int .i64 0] 223)) b G s := h.below ((Below.refl _ _).alloc (Nat.le_refl _) _)
  have hp := peekP_any _ b G s h'
  match s, h, h', hp with
  | some (t :: l), h, h', hp =>
    have hp : Calls Tryz.prog 130 #[.pointer (some ⟨b, 0, none⟩)] (w.alloc (.cells #[.int .i64 0, .string ⟨#[]⟩, .int .i64 0] 223)) fun e w' => e = .returned (.agg #[.int .i64 t.k, .string t.s, .int .i64 t.n]) ∧ Below (w.alloc (.cells #[.int .i64 0, .string ⟨#[]⟩, .int .i64 0] 223)).heap.size (w.alloc (.cells #[.int .i64 0, .string ⟨#[]⟩, .int .i64 0] 223)) w' := hp
    show Calls _ _ _ _ fun e w' => e = .returned (.agg #[.int .i64 t.k, .string t.s, .int .i64 t.n]) ∧ PS w' b G (some l) ∧ Keep b w w'
    obtain ⟨v0, p1, p2, _⟩ := h.st
    obtain ⟨off, cap, cur, rfl, hcap, hg0, _, _, _, htoks⟩ := prg_head p2
    have hgw := lt_of_block hg0
    have HT := hide htoks
    have HG0 := hide hg0
    have HP1 := hide p1
    clear htoks hg0 p1 p2
    go_enter Tryz.func165, Tryz.ntmps165
    go_wp2_with fail
    refine hp.mono ?_
    clear hp
    rintro e w1 ⟨rfl, hb1⟩
    have hX := (h'.below hb1).below ((Below.refl _ _).alloc (Nat.le_refl _) (.cells #[.int .i64 t.k, .string t.s, .int .i64 t.n] 223))
    have hc := atEnd_any _ b G _ hX
    have hlow : Below w.heap.size w w1 := ((Below.refl _ _).alloc (Nat.le_refl _) _).trans (hb1.mono (by simp))
    have hlowX : Below w.heap.size w (w1.alloc (.cells #[.int .i64 t.k, .string t.s, .int .i64 t.n] 223)) := hlow.alloc hlow.size _
    have q1 := (hlowX.block b hlt).trans HP1.out
    have hg := (hlowX.block G hgw).trans HG0.out
    have c0 : (w1.alloc (.cells #[.int .i64 t.k, .string t.s, .int .i64 t.n] 223)).cell? ⟨b, 0, none⟩ = some (.slice (some ⟨G, off, none⟩) (l.length + 1) cap) := cell_of_block q1 0
    have f0 := frozen_of_block q1 0
    have hbw : b < w1.heap.size := by have := hb1.size; simp at this; omega
    have hgw1 : G < w1.heap.size := by have := hb1.size; simp at this; omega
    have hs1 : w.heap.size < w1.heap.size := by have := hb1.size; simp at this; omega
    have hcx : ∀ j, w1.cell? ⟨w.heap.size, j, none⟩ = (w.alloc zeroTokP).cell? ⟨w.heap.size, j, none⟩ := fun j => hb1.cell (by simp)
    have hf0 : ∀ j, w1.frozen? ⟨w.heap.size, j, none⟩ = false := fun j => by rw [hb1.frozen (by simp)]; exact frozen_new w _ j
    have hc0 : w1.cell? ⟨w.heap.size, 0, none⟩ = some (.int .i64 0) := by rw [hcx]; simp [zeroTokP]
    have hc1 : w1.cell? ⟨w.heap.size, 1, none⟩ = some (.string ⟨#[]⟩) := by rw [hcx]; simp [zeroTokP]
    have hc2 : w1.cell? ⟨w.heap.size, 2, none⟩ = some (.int .i64 0) := by rw [hcx]; simp [zeroTokP]
    have HK := hide (Keep.of_below (b := b) hlow)
    have HG := hide ((hlow.block G hgw).trans HG0.out)
    have HQ1 := hide ((hlow.block b hlt).trans HP1.out)
    have HLEN := hide hX.len
    have HWF := hide hX.wf
    clear hcx hb1 hX q1 hg h h' HG0 HP1
    go_wp2_with fail
    refine hc.mono ?_
    clear hc
    rw [show atEnd (some (t :: l)) = false from rfl]
    rintro e w2 ⟨rfl, hw2⟩
    have hw2 := hw2.symm
    subst hw2
    by_cases hc1' : cap = 1
    · subst hc1'
      go_wp2_with fail
      refine bodyPost_ret (v := .agg #[.int .i64 t.k, .string t.s, .int .i64 t.n]) (by simp [results, Tryz.results165, go_sem, hc0, hc1, hc2, hs1]) rfl ⟨rfl, ⟨⟨.slice (some ⟨G, off, none⟩) 0 0, ?_, ?_, fun e => by cases e⟩, ?_, ?_, ?_⟩, ?_⟩
      · rw [alloc_other _ _ _ (by simp [World.setCell]; omega), set3_other _ _ _ (by omega), setCell_block HQ1.out 0 _]; rfl
      · left; exact ⟨List.eq_nil_of_length_eq_zero (by simp only [Option.getD_some]; omega), _, _, rfl⟩
      · have := HLEN.out; simp [ln] at this ⊢; omega
      · intro x hx; exact HWF.out x (List.mem_cons_of_mem _ hx)
      · simp [World.setCell]; omega
      · exact ((((HK.out.setCell 0 _).setNew _ (Nat.le_refl _) _).setNew _ (Nat.le_refl _) _).setNew _ (Nat.le_refl _) _).alloc _
    · go_wp2_with fail
      refine bodyPost_ret (v := .agg #[.int .i64 t.k, .string t.s, .int .i64 t.n]) (by simp [results, Tryz.results165, go_sem, hc0, hc1, hc2, hs1]) rfl ⟨rfl, ⟨⟨.slice (some ⟨G, off + 3, none⟩) l.length (cap - 1), ?_, ?_, fun e => by cases e⟩, ?_, ?_, ?_⟩, ?_⟩
      · rw [alloc_other _ _ _ (by simp [World.setCell]; omega), set3_other _ _ _ (by omega), setCell_block HQ1.out 0 _]; rfl
      · right; exact ⟨off + 3, cap - 1, cur, rfl, by simp only [Option.getD_some]; omega, by rw [alloc_other _ _ _ (by simp [World.setCell]; omega), set3_other _ _ _ (by omega), Below.heap_setCell _ _ _ _ (fun e => by subst e; have := HQ1.out; rw [HG.out] at this; cases this)]; exact HG.out, HT.out⟩
      · have := HLEN.out; simp [ln] at this ⊢; omega
      · intro x hx; exact HWF.out x (List.mem_cons_of_mem _ hx)
      · simp [World.setCell]; omega
      · exact ((((HK.out.setCell 0 _).setNew _ (Nat.le_refl _) _).setNew _ (Nat.le_refl _) _).setNew _ (Nat.le_refl _) _).alloc _
  | some [], h, h', hp =>
    have hp : Calls Tryz.prog 130 #[.pointer (some ⟨b, 0, none⟩)] (w.alloc (.cells #[.int .i64 0, .string ⟨#[]⟩, .int .i64 0] 223)) fun e w' => e = .returned (.agg #[.int .i64 0, .string ⟨#[]⟩, .int .i64 0]) ∧ Below (w.alloc (.cells #[.int .i64 0, .string ⟨#[]⟩, .int .i64 0] 223)).heap.size (w.alloc (.cells #[.int .i64 0, .string ⟨#[]⟩, .int .i64 0] 223)) w' := hp
    show Calls _ _ _ _ fun e w' => e = .returned (.agg #[.int .i64 0, .string ⟨#[]⟩, .int .i64 0]) ∧ PS w' b G (some []) ∧ Keep b w w'
    go_enter Tryz.func165, Tryz.ntmps165
    go_wp2_with fail
    refine hp.mono ?_
    clear hp
    rintro e w1 ⟨rfl, hb1⟩
    have hX0 := h'.below hb1
    have hc := atEnd_any _ b G _ (hX0.below ((Below.refl _ _).alloc (Nat.le_refl _) (.cells #[.int .i64 0, .string ⟨#[]⟩, .int .i64 0] 223)))
    have hbw : b < w1.heap.size := hX0.lt
    have hgw1 : G < w1.heap.size := hX0.glt
    have hgw : G < w.heap.size := h.glt
    have hs1 : w.heap.size < w1.heap.size := by have := hb1.size; simp at this; omega
    have hcx : ∀ j, w1.cell? ⟨w.heap.size, j, none⟩ = (w.alloc zeroTokP).cell? ⟨w.heap.size, j, none⟩ := fun j => hb1.cell (by simp)
    have hf0 : ∀ j, w1.frozen? ⟨w.heap.size, j, none⟩ = false := fun j => by rw [hb1.frozen (by simp)]; exact frozen_new w _ j
    have hc0 : w1.cell? ⟨w.heap.size, 0, none⟩ = some (.int .i64 0) := by rw [hcx]; simp [zeroTokP]
    have hc1 : w1.cell? ⟨w.heap.size, 1, none⟩ = some (.string ⟨#[]⟩) := by rw [hcx]; simp [zeroTokP]
    have hc2 : w1.cell? ⟨w.heap.size, 2, none⟩ = some (.int .i64 0) := by rw [hcx]; simp [zeroTokP]
    have hlow : Below w.heap.size w w1 := ((Below.refl _ _).alloc (Nat.le_refl _) _).trans (hb1.mono (by simp))
    have HK := hide (Keep.of_below (b := b) hlow)
    have HX := hide hX0
    clear hcx hb1 hX0 h h'
    go_wp2_with fail
    refine hc.mono ?_
    clear hc
    rw [show atEnd (some []) = true from rfl]
    rintro e w2 ⟨rfl, hw2⟩
    have hw2 := hw2.symm
    subst hw2
    go_wp2_with fail
    refine bodyPost_ret (v := .agg #[.int .i64 0, .string ⟨#[]⟩, .int .i64 0]) (by simp [results, Tryz.results165, go_sem, hc0, hc1, hc2, hs1]) rfl ⟨rfl, ?_, ?_⟩
    · exact HX.out.move (by rw [alloc_other _ _ _ (by simp [World.setCell]; omega), set3_other _ _ _ (by omega)]) (by rw [alloc_other _ _ _ (by simp [World.setCell]; omega), set3_other _ _ _ (by omega)]) (by simp [World.setCell])
    · exact (((HK.out.setNew _ (Nat.le_refl _) _).setNew _ (Nat.le_refl _) _).setNew _ (Nat.le_refl _) _).alloc _
  | none, h, h', hp =>
    have hp : Calls Tryz.prog 130 #[.pointer (some ⟨b, 0, none⟩)] (w.alloc (.cells #[.int .i64 0, .string ⟨#[]⟩, .int .i64 0] 223)) fun e w' => e = .returned (.agg #[.int .i64 0, .string ⟨#[]⟩, .int .i64 0]) ∧ Below (w.alloc (.cells #[.int .i64 0, .string ⟨#[]⟩, .int .i64 0] 223)).heap.size (w.alloc (.cells #[.int .i64 0, .string ⟨#[]⟩, .int .i64 0] 223)) w' := hp
    show Calls _ _ _ _ fun e w' => e = .returned (.agg #[.int .i64 0, .string ⟨#[]⟩, .int .i64 0]) ∧ PS w' b G none ∧ Keep b w w'
    go_enter Tryz.func165, Tryz.ntmps165
    go_wp2_with fail
    refine hp.mono ?_
    clear hp
    rintro e w1 ⟨rfl, hb1⟩
    have hX0 := h'.below hb1
    have hc := atEnd_any _ b G _ (hX0.below ((Below.refl _ _).alloc (Nat.le_refl _) (.cells #[.int .i64 0, .string ⟨#[]⟩, .int .i64 0] 223)))
    have hbw : b < w1.heap.size := hX0.lt
    have hgw1 : G < w1.heap.size := hX0.glt
    have hgw : G < w.heap.size := h.glt
    have hs1 : w.heap.size < w1.heap.size := by have := hb1.size; simp at this; omega
    have hcx : ∀ j, w1.cell? ⟨w.heap.size, j, none⟩ = (w.alloc zeroTokP).cell? ⟨w.heap.size, j, none⟩ := fun j => hb1.cell (by simp)
    have hf0 : ∀ j, w1.frozen? ⟨w.heap.size, j, none⟩ = false := fun j => by rw [hb1.frozen (by simp)]; exact frozen_new w _ j
    have hc0 : w1.cell? ⟨w.heap.size, 0, none⟩ = some (.int .i64 0) := by rw [hcx]; simp [zeroTokP]
    have hc1 : w1.cell? ⟨w.heap.size, 1, none⟩ = some (.string ⟨#[]⟩) := by rw [hcx]; simp [zeroTokP]
    have hc2 : w1.cell? ⟨w.heap.size, 2, none⟩ = some (.int .i64 0) := by rw [hcx]; simp [zeroTokP]
    have hlow : Below w.heap.size w w1 := ((Below.refl _ _).alloc (Nat.le_refl _) _).trans (hb1.mono (by simp))
    have HK := hide (Keep.of_below (b := b) hlow)
    have HX := hide hX0
    clear hcx hb1 hX0 h h'
    go_wp2_with fail
    refine hc.mono ?_
    clear hc
    rw [show atEnd none = true from rfl]
    rintro e w2 ⟨rfl, hw2⟩
    have hw2 := hw2.symm
    subst hw2
    go_wp2_with fail
    refine bodyPost_ret (v := .agg #[.int .i64 0, .string ⟨#[]⟩, .int .i64 0]) (by simp [results, Tryz.results165, go_sem, hc0, hc1, hc2, hs1]) rfl ⟨rfl, ?_, ?_⟩
    · exact HX.out.move (by rw [alloc_other _ _ _ (by simp [World.setCell]; omega), set3_other _ _ _ (by omega)]) (by rw [alloc_other _ _ _ (by simp [World.setCell]; omega), set3_other _ _ _ (by omega)]) (by simp [World.setCell])
    · exact (((HK.out.setNew _ (Nat.le_refl _) _).setNew _ (Nat.le_refl _) _).setNew _ (Nat.le_refl _) _).alloc _
end Go.Proofs.YtpggfgjongkihaaGreat
