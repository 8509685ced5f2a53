/- The program's cutting: a text copied (strings.Clone). The program's cutting: first. The program's cutting: Cut. -/
import Derived.Test.YtpggfgjongkihaaGreatM03
import Derived.Lib.Strings
import Derived.Lib.Walk
import Derived.Lib.BufferWrite
import Derived.Lib.UnsafeStr
import Derived.Lib.Hide
import Derived.Laws.MakeOwn
import Derived.Test.YtpggfgjongkihaaGreatM02
namespace Go.Proofs.YtpggfgjongkihaaGreat
open Go.RowKit
theorem Tryz.cinfo5 : (Tryz.prog.info? 5).map (fun i => (i.zero, i.size, i.bytes)) = some (some (.int .u8 0), 1, 1) := by kernel_rfl
set_option maxHeartbeats 4000000 in
set_option maxRecDepth 100000 in
theorem liteClone_any (s : ByteArray) (w : World) (hs : s.size ≤ 100000) :
    Calls Tryz.prog 181 #[.string s] w fun e w' => e = .returned (.string s) ∧ Below w.heap.size w w' := by
  by_cases h0 : s.size = 0
  · have he : s = ⟨#[]⟩ := by
      apply ByteArray.ext
      exact Array.eq_empty_of_size_eq_zero h0
    subst he
    go_enter Tryz.func181, Tryz.ntmps181
    go_wp2
    go_ret
    exact ⟨rfl, Below.refl _ _⟩
  · obtain ⟨i0, hi, hz0, hz1, hz2⟩ := info_parts Tryz.cinfo5
    have hinfo : (Tryz.prog.info? 5).map (·.size) = some 1 := by rw [hi]; simp [hz1]
    have hco : Tryz.prog.cellsOf 5 = 1 := by simp [Program.cellsOf, hi, hz1]
    obtain ⟨M, hM⟩ : ∃ M, M = madeCells (Value.int .u8 0).cells (((s.size : Nat) : Int).toNat * i0.size) := ⟨_, rfl⟩
    have hMs : M.size = s.size := by rw [hM, size_madeCells, hz1]; simp
    have hmk : ∀ W : World, (Instr.makeSlice 81 (.int .i64 (s.size : Int)) (.int .i64 (s.size : Int))).run Tryz.prog W = .ok (.slice (some ⟨W.heap.size, 0, none⟩) s.size s.size) (W.alloc (.cells M 5)) := fun W => by
      have h := run_make (P := Tryz.prog) W 81 5 i0 (.int .u8 0) Tryz.underlying81 hi hz0 .i64 .i64 (s.size : Int) (s.size : Int) (by omega) (by omega) (by rw [hz2]; omega) (by omega)
      rw [← hM] at h
      simpa using h
    clear hM
    have hcp := Lib.run_copy_row_string (P := Tryz.prog) (w.alloc (.cells M 5)) 81 9 3 5 w.heap.size 0 s.size s.size s M 5 Tryz.underlying81 hinfo (heap_alloc_new w _) (Nat.le_refl _) (by omega)
    obtain ⟨Y, hY⟩ : ∃ Y, Y = (M.toList.take 0 ++ Lib.byteCells s.data.toList ++ M.toList.drop (0 + s.size)).toArray := ⟨_, rfl⟩
    rw [← hY] at hcp
    have hYl : Y.toList = Lib.byteCells s.data.toList := by
      rw [hY, List.toList_toArray, List.take_zero, List.nil_append, List.drop_of_length_le (by rw [Array.length_toList]; omega), List.append_nil]
    have hYs : Y.size = s.size := by rw [← Array.length_toList, hYl, Lib.byteCells_length, ← Lib.size_eq]
    have hgY : ((w.alloc (.cells M 5)).setRow w.heap.size Y).heap[w.heap.size]? = some (.cells Y 5 (0, 0)) := setRow_heap _ _ M _ 5 (0, 0) (heap_alloc_new w _)
    have hne : s.data.toList ≠ [] := fun e => h0 (by rw [Lib.size_eq, e]; rfl)
    have hUS := Lib.run_unsafeString_row (P := Tryz.prog) ((w.alloc (.cells M 5)).setRow w.heap.size Y) 287 3 9 5 Tryz.underlying287 hco w.heap.size Y.size (by unfold World.shape?; rw [hgY]) s.data.toList hne (by rw [← Lib.size_eq]; omega) (by rw [← Lib.size_eq]; omega)
      (fun j x hx => Lib.cells_of_row hgY Y.size j _ (by rw [List.take_of_length_le (by rw [Array.length_toList]; exact Nat.le_refl _), hYl]; simp [Lib.byteCells, hx]))
    rw [← Lib.size_eq] at hUS
    clear hY
    go_enter Tryz.func181, Tryz.ntmps181
    go_wp2
    go_ret
    have hb1 : Below w.heap.size w (w.alloc (.cells M 5)) := (Below.refl _ w).alloc (Nat.le_refl _) _
    have hb2 : Below w.heap.size (w.alloc (.cells M 5)) ((w.alloc (.cells M 5)).setRow w.heap.size Y) := ⟨rfl, rfl, rfl, by simp, fun k hk => setRow_other _ _ _ _ (by omega)⟩
    exact ⟨rfl, Lib.below_freeze (hb1.trans hb2) (p := ⟨w.heap.size, 0, none⟩) (Nat.le_refl _) _⟩
theorem clone_any (s : ByteArray) (w : World) (hs : s.size ≤ 100000) :
    Calls Tryz.prog 148 #[.string s] w fun e w' => e = .returned (.string s) ∧ Below w.heap.size w w' := by
  have hc := liteClone_any s w hs
  go_enter Tryz.func148, Tryz.ntmps148
  go_wp2_with fail
  refine hc.mono ?_
  rintro e w1 ⟨rfl, hb1⟩
  go_wp2_with fail
  go_ret
  exact ⟨rfl, hb1⟩
end Go.Proofs.YtpggfgjongkihaaGreat
namespace Go.Proofs.YtpggfgjongkihaaGreat
open Go.RowKit
def firV : Option (Tk × Nat) → Value
  | none => .tuple #[.agg #[.int .i64 0, .string ⟨#[]⟩, .int .i64 0], .int .i64 0]
  | some (t, k) => .tuple #[.agg #[.int .i64 t.k, .string t.s, .int .i64 t.n], .int .i64 k]
theorem number_is (s : ByteArray) (x : Value) (w : World) (h : 0 < s.size) (hs : s.size ≤ 100000) (hn : numV (numR s.data.toList) = x) :
    Calls Tryz.prog 159 #[.string s] w fun e w' => e = .returned x ∧ Below w.heap.size w w' := by
  subst hn; exact number_any s w h hs
theorem quoted_is (s : ByteArray) (x : Value) (w : World) (h : 0 < s.size) (hs : s.size ≤ 100000) (hn : strV (strR (s.data.toList.drop 1) [] 1) = x) :
    Calls Tryz.prog 162 #[.string s] w fun e w' => e = .returned x ∧ Below w.heap.size w w' := by
  subst hn; exact quoted_any s w h hs
theorem digm_cases (c : UInt8) : inB digmB c = (inB digitsB c || decide (c = 45)) := by
  have h : ∀ i : Fin 256, inB digmB (UInt8.ofFin i) = (inB digitsB (UInt8.ofFin i) || decide (UInt8.ofFin i = 45)) := by decide +kernel
  exact h c.toFin
theorem digm_letters (c : UInt8) (h : inB digmB c = true) : inB lettersB c = false := by
  have k : ∀ i : Fin 256, inB digmB (UInt8.ofFin i) = true → inB lettersB (UInt8.ofFin i) = false := by decide +kernel
  exact k c.toFin h
theorem signAt_index : ∀ (l : List UInt8) (c : UInt8) (n : Nat), signAt l c n = if Lib.indexByte l c = -1 then none else some (n + (Lib.indexByte l c).toNat)
  | [], _, _ => rfl
  | d :: l, c, n => by
    by_cases h : d = c
    · subst h; simp [signAt, Lib.indexByte]
    · have := Lib.indexByte_ge l c
      rw [signAt, if_neg h, signAt_index l c (n + 1)]
      have e : Lib.indexByte (d :: l) c = if Lib.indexByte l c == -1 then -1 else Lib.indexByte l c + 1 := by
        rw [Lib.indexByte, if_neg (by simpa using h)]
      rw [e]
      by_cases h2 : Lib.indexByte l c = -1
      · simp [h2]
      · have h3 : (Lib.indexByte l c == -1) = false := by simpa using h2
        rw [if_neg h2, h3, if_neg (by simp; omega)]
        congr 1; simp; omega
def dotsB (s : ByteArray) : Bool := decide (s.data.toList.take 3 = [46, 46, 46])
set_option maxHeartbeats 400000 in
theorem prefix_any (s : ByteArray) (w : World) (hs : s.size ≤ 100000) :
    Calls Tryz.prog 163 #[.string s, .string ⟨#[46, 46, 46]⟩] w fun e w' => e = .returned (.bool (dotsB s)) ∧ w' = w := by
  by_cases hd3 : 3 ≤ s.size
  · have h3 : 3 ≤ (s.size : Int) := by omega
    have ht := take3_eq s 0
    rw [Nat.zero_add] at ht
    have HT := hide (show ((s.extract 0 3).toList == [46, 46, 46]) = dotsB s from ht)
    clear ht
    cases hdd : ((s.extract 0 3).toList == [46, 46, 46])
    · go_enter Tryz.func163, Tryz.ntmps163
      go_wp2
      go_ret
      exact ⟨ret_bool (by rw [← HT.out, hdd]), rfl⟩
    · go_enter Tryz.func163, Tryz.ntmps163
      go_wp2
      go_ret
      exact ⟨ret_bool (by rw [← HT.out, hdd]), rfl⟩
  · have h3 : ¬ 3 ≤ (s.size : Int) := by omega
    have HT := hide (show dotsB s = false from by unfold dotsB; rw [decide_eq_false_iff_not]; intro e; have := congrArg List.length e; simp at this; have h9 : s.data.size = s.size := rfl; omega)
    go_enter Tryz.func163, Tryz.ntmps163
    go_wp2
    go_ret
    exact ⟨ret_bool (by rw [HT.out]), rfl⟩
theorem drop0 (s : ByteArray) : s.data.toList.drop 0 = s.data.toList := rfl

theorem indexByte_lt : ∀ (l : List UInt8) (c : UInt8), Lib.indexByte l c < l.length
  | [], _ => by simp [Lib.indexByte]
  | d :: l, c => by
    have := indexByte_lt l c
    have := Lib.indexByte_ge l c
    unfold Lib.indexByte
    split
    · simp only [List.length_cons]; omega
    split <;> (simp only [List.length_cons]; omega)
set_option maxHeartbeats 2000000 in
set_option maxRecDepth 100000 in
theorem first_any (s : ByteArray) (w : World) (h : 0 < s.size) (hs : s.size ≤ 100000) :
    Calls Tryz.prog 124 #[.string s] w fun e w' => e = .returned (firV (lex1 s.data.toList)) ∧ Below w.heap.size w w' := by
  generalize hq : firV (lex1 s.data.toList) = q
  have HQ := hide hq
  clear hq
  cases hdg : inB digitsB s[0]
  · cases h45 : ((s[0].toNat : Int) == 45)
    · have hdmf := hide (show inB digmB s[0] = false from by rw [digm_cases, hdg]; simpa [byte_eq45] using h45)
      have hwc := word_cases s[0]
      rw [hdg, Bool.false_or] at hwc
      cases hlet : inB lettersB s[0]
      · rw [hlet] at hwc
        cases h34 : ((s[0].toNat : Int) == 34)
        · have N34 := hide (show ¬ s[0] = 34 from by intro e; rw [e] at h34; simp at h34)
          cases hdd : dotsB s
          · have ND2 := hide hdd
            have ND := hide (show ¬ (s.data.toList.drop 0).take 3 = [46, 46, 46] from by simpa [dotsB] using hdd)
            clear hdd
            have HX := hide (lex1_sign s 0 h hlet hdmf.out N34.out ND.out)
            have hge := Lib.indexByte_ge signsB.data.toList s[0]
            by_cases hix : Lib.indexByte signsB.data.toList s[0] = -1
            · have HX2 := hide (show lex1 s.data.toList = none from by have := HX.out; rw [drop0] at this; rw [this, signAt_index, if_pos hix]; rfl)
              have HI := hide hix
              clear hix hge
              go_enter Tryz.func124, Tryz.ntmps124
              go_wp2_with fail
              refine (isDigit_any _ _).mono ?_
              rintro e w' ⟨rfl, rfl⟩
              go_wp2_with fail
              refine (isWord_any _ _).mono ?_
              rintro e w' ⟨rfl, rfl⟩
              go_wp2_with fail
              refine (prefix_any s _ hs).mono ?_
              rw [ND2.out]
              rintro e w' ⟨rfl, rfl⟩
              go_wp2_with fail
              refine (sIndexByte_any signsB s[0] _).mono ?_
              rw [HI.out]
              rintro e w' ⟨rfl, rfl⟩
              go_wp2_with fail
              refine bodyPost_ret (v := firV (none)) (by simp [results, Tryz.results124, go_sem, firV]) rfl ⟨by rw [← HQ.out, HX2.out], (Below.refl _ _).alloc (Nat.le_refl _) _⟩
            · obtain ⟨i, hi⟩ : ∃ i : Nat, Lib.indexByte signsB.data.toList s[0] = i := ⟨(Lib.indexByte signsB.data.toList s[0]).toNat, by omega⟩
              have HX2 := hide (show lex1 s.data.toList = some (⟨5 + i, ⟨#[]⟩, 0⟩, 1) from by have := HX.out; rw [drop0] at this; rw [this, signAt_index, if_neg hix, hi]; rfl)
              have hlt := indexByte_lt signsB.data.toList s[0]
              rw [hi] at hlt
              have hlt2 : (i : Int) < 13 := hlt
              have HI := hide hi
              clear hix hge hi hlt
              go_enter Tryz.func124, Tryz.ntmps124
              go_wp2_with fail
              refine (isDigit_any _ _).mono ?_
              rintro e w' ⟨rfl, rfl⟩
              go_wp2_with fail
              refine (isWord_any _ _).mono ?_
              rintro e w' ⟨rfl, rfl⟩
              go_wp2_with fail
              refine (prefix_any s _ hs).mono ?_
              rw [ND2.out]
              rintro e w' ⟨rfl, rfl⟩
              go_wp2_with fail
              refine (sIndexByte_any signsB s[0] _).mono ?_
              rw [HI.out]
              rintro e w' ⟨rfl, rfl⟩
              go_wp2_with fail
              refine bodyPost_ret (v := firV (some (⟨5 + i, ⟨#[]⟩, 0⟩, 1))) (by simp [results, Tryz.results124, go_sem, firV]) rfl ⟨by rw [← HQ.out, HX2.out], (Below.refl _ _).alloc (Nat.le_refl _) _⟩
          · have ND2 := hide hdd
            have HX := hide (show lex1 s.data.toList = some (⟨4, ⟨#[]⟩, 0⟩, 3) from lex1_dots s 0 h hlet hdmf.out N34.out (by simpa [dotsB] using hdd))
            clear hdd
            go_enter Tryz.func124, Tryz.ntmps124
            go_wp2_with fail
            refine (isDigit_any _ _).mono ?_
            rintro e w' ⟨rfl, rfl⟩
            go_wp2_with fail
            refine (isWord_any _ _).mono ?_
            rintro e w' ⟨rfl, rfl⟩
            go_wp2_with fail
            refine (prefix_any s _ hs).mono ?_
            rw [ND2.out]
            rintro e w' ⟨rfl, rfl⟩
            go_wp2_with fail
            refine bodyPost_ret (v := firV (some (⟨4, ⟨#[]⟩, 0⟩, 3))) (by simp [results, Tryz.results124, go_sem, firV]) rfl ⟨by rw [← HQ.out, HX.out], (Below.refl _ _).alloc (Nat.le_refl _) _⟩
        · have HX := hide (show lex1 s.data.toList = (strR (s.data.toList.drop 1) [] 1).map fun x => (⟨3, ofB x.1, 0⟩, x.2) from lex1_str s 0 h hlet hdmf.out (u8_of_int (by simpa using h34)))
          cases hn : strR (s.data.toList.drop 1) [] 1 with
          | none =>
            have HN0 := hide (show strV (strR (s.data.toList.drop 1) [] 1) = .tuple #[.agg #[.int .i64 0, .string ⟨#[]⟩, .int .i64 0], .int .i64 0] from by rw [hn]; rfl)
            have HX2 := hide (show lex1 s.data.toList = none from by rw [HX.out, hn]; rfl)
            clear hn
            go_enter Tryz.func124, Tryz.ntmps124
            go_wp2_with fail
            refine (isDigit_any _ _).mono ?_
            rintro e w' ⟨rfl, rfl⟩
            go_wp2_with fail
            refine (isWord_any _ _).mono ?_
            rintro e w' ⟨rfl, rfl⟩
            go_wp2_with fail
            refine (quoted_is s _ _ h hs HN0.out).mono ?_
            rintro e w1 ⟨rfl, hb1⟩
            have hcx : ∀ j, w1.cell? ⟨w.heap.size, j, none⟩ = (w.alloc zeroTokP).cell? ⟨w.heap.size, j, none⟩ := fun j => hb1.cell (by simp)
            have hf0 : ∀ j, w1.frozen? ⟨w.heap.size, j, none⟩ = false := fun j => by rw [hb1.frozen (by simp)]; exact frozen_new w _ j
            have hc0 : w1.cell? ⟨w.heap.size, 0, none⟩ = some (.int .i64 0) := by rw [hcx]; simp [zeroTokP]
            have hc1 : w1.cell? ⟨w.heap.size, 1, none⟩ = some (.string ⟨#[]⟩) := by rw [hcx]; simp [zeroTokP]
            have hc2 : w1.cell? ⟨w.heap.size, 2, none⟩ = some (.int .i64 0) := by rw [hcx]; simp [zeroTokP]
            clear hcx
            have hlow : Below w.heap.size w w1 := ((Below.refl _ _).alloc (Nat.le_refl _) _).trans (hb1.mono (by simp))
            clear hb1
            have hfin : ∀ x y z, Below w.heap.size w (((w1.setCell ⟨w.heap.size, 0, none⟩ x).setCell ⟨w.heap.size, 1, none⟩ y).setCell ⟨w.heap.size, 2, none⟩ z) := fun x y z => ((hlow.setCell (Nat.le_refl _) x).setCell (Nat.le_refl _) y).setCell (Nat.le_refl _) z
            go_wp2_with fail
            refine bodyPost_ret (v := firV (none)) (by simp [results, Tryz.results124, go_sem, firV, hc0, hc1, hc2]) rfl ⟨by rw [← HQ.out, HX2.out], hfin _ _ _⟩
          | some x =>
            obtain ⟨l, m⟩ := x
            have HN0 := hide (show strV (strR (s.data.toList.drop 1) [] 1) = .tuple #[.agg #[.int .i64 3, .string (ofB l), .int .i64 0], .int .i64 m] from by rw [hn]; rfl)
            have HX2 := hide (show lex1 s.data.toList = some (⟨3, ofB l, 0⟩, m) from by rw [HX.out, hn]; rfl)
            clear hn
            generalize ofB l = lb at *
            go_enter Tryz.func124, Tryz.ntmps124
            go_wp2_with fail
            refine (isDigit_any _ _).mono ?_
            rintro e w' ⟨rfl, rfl⟩
            go_wp2_with fail
            refine (isWord_any _ _).mono ?_
            rintro e w' ⟨rfl, rfl⟩
            go_wp2_with fail
            refine (quoted_is s _ _ h hs HN0.out).mono ?_
            rintro e w1 ⟨rfl, hb1⟩
            have hcx : ∀ j, w1.cell? ⟨w.heap.size, j, none⟩ = (w.alloc zeroTokP).cell? ⟨w.heap.size, j, none⟩ := fun j => hb1.cell (by simp)
            have hf0 : ∀ j, w1.frozen? ⟨w.heap.size, j, none⟩ = false := fun j => by rw [hb1.frozen (by simp)]; exact frozen_new w _ j
            have hc0 : w1.cell? ⟨w.heap.size, 0, none⟩ = some (.int .i64 0) := by rw [hcx]; simp [zeroTokP]
            have hc1 : w1.cell? ⟨w.heap.size, 1, none⟩ = some (.string ⟨#[]⟩) := by rw [hcx]; simp [zeroTokP]
            have hc2 : w1.cell? ⟨w.heap.size, 2, none⟩ = some (.int .i64 0) := by rw [hcx]; simp [zeroTokP]
            clear hcx
            have hlow : Below w.heap.size w w1 := ((Below.refl _ _).alloc (Nat.le_refl _) _).trans (hb1.mono (by simp))
            clear hb1
            have hfin : ∀ x y z, Below w.heap.size w (((w1.setCell ⟨w.heap.size, 0, none⟩ x).setCell ⟨w.heap.size, 1, none⟩ y).setCell ⟨w.heap.size, 2, none⟩ z) := fun x y z => ((hlow.setCell (Nat.le_refl _) x).setCell (Nat.le_refl _) y).setCell (Nat.le_refl _) z
            go_wp2_with fail
            refine bodyPost_ret (v := firV (some (⟨3, lb, 0⟩, m))) (by simp [results, Tryz.results124, go_sem, firV, hc0, hc1, hc2]) rfl ⟨by rw [← HQ.out, HX2.out], hfin _ _ _⟩
      · rw [hlet] at hwc
        have HX := hide (show lex1 s.data.toList = some (⟨1, s.extract 0 (runLen s.data.toList wordB), 0⟩, runLen s.data.toList wordB) from by have := lex1_word s 0 h hlet; simpa using this)
        have hwl := runLen_le s.data.toList wordB
        rw [Array.length_toList, show s.data.size = s.size from rfl] at hwl
        generalize hm : runLen s.data.toList wordB = m at *
        have HM := hide hm
        clear hm
        go_enter Tryz.func124, Tryz.ntmps124
        go_wp2_with fail
        refine (isDigit_any _ _).mono ?_
        rintro e w' ⟨rfl, rfl⟩
        go_wp2_with fail
        refine (isWord_any _ _).mono ?_
        rintro e w' ⟨rfl, rfl⟩
        go_wp2_with fail
        refine (wordSize_any s _ hs).mono ?_
        rw [HM.out]
        rintro e w' ⟨rfl, rfl⟩
        go_wp2_with fail
        refine (clone_any _ _ (by rw [ByteArray.size_extract]; omega)).mono ?_
        rintro e w1 ⟨rfl, hb1⟩
        have hcx : ∀ j, w1.cell? ⟨w.heap.size, j, none⟩ = (w.alloc zeroTokP).cell? ⟨w.heap.size, j, none⟩ := fun j => hb1.cell (by simp)
        have hf0 : ∀ j, w1.frozen? ⟨w.heap.size, j, none⟩ = false := fun j => by rw [hb1.frozen (by simp)]; exact frozen_new w _ j
        have hc0 : w1.cell? ⟨w.heap.size, 0, none⟩ = some (.int .i64 0) := by rw [hcx]; simp [zeroTokP]
        have hc1 : w1.cell? ⟨w.heap.size, 1, none⟩ = some (.string ⟨#[]⟩) := by rw [hcx]; simp [zeroTokP]
        have hc2 : w1.cell? ⟨w.heap.size, 2, none⟩ = some (.int .i64 0) := by rw [hcx]; simp [zeroTokP]
        clear hcx
        have hlow : Below w.heap.size w w1 := ((Below.refl _ _).alloc (Nat.le_refl _) _).trans (hb1.mono (by simp))
        clear hb1
        have hfin : ∀ x y z, Below w.heap.size w (((w1.setCell ⟨w.heap.size, 0, none⟩ x).setCell ⟨w.heap.size, 1, none⟩ y).setCell ⟨w.heap.size, 2, none⟩ z) := fun x y z => ((hlow.setCell (Nat.le_refl _) x).setCell (Nat.le_refl _) y).setCell (Nat.le_refl _) z
        go_wp2_with fail
        refine bodyPost_ret (v := firV (some (⟨1, s.extract 0 m, 0⟩, m))) (by simp [results, Tryz.results124, go_sem, firV, hc0, hc1, hc2]) rfl ⟨by rw [← HQ.out, HX.out], hfin _ _ _⟩
    · have hdm := hide (show inB digmB s[0] = true from by rw [digm_cases, hdg]; simpa [byte_eq45] using h45)
      have HX := hide (show lex1 s.data.toList = (numR s.data.toList).map fun x => (⟨2, ⟨#[]⟩, x.1⟩, x.2) from lex1_num s 0 h (digm_letters _ hdm.out) hdm.out)
      cases hn : numR s.data.toList with
      | none =>
        have HN0 := hide (show numV (numR s.data.toList) = .tuple #[.agg #[.int .i64 0, .string ⟨#[]⟩, .int .i64 0], .int .i64 0] from by rw [hn]; rfl)
        have HX2 := hide (show lex1 s.data.toList = none from by rw [HX.out, hn]; rfl)
        clear hn
        go_enter Tryz.func124, Tryz.ntmps124
        go_wp2_with fail
        refine (isDigit_any _ _).mono ?_
        rintro e w' ⟨rfl, rfl⟩
        go_wp2_with fail
        refine (number_is s _ _ h hs HN0.out).mono ?_
        rintro e w1 ⟨rfl, hb1⟩
        have hcx : ∀ j, w1.cell? ⟨w.heap.size, j, none⟩ = (w.alloc zeroTokP).cell? ⟨w.heap.size, j, none⟩ := fun j => hb1.cell (by simp)
        have hf0 : ∀ j, w1.frozen? ⟨w.heap.size, j, none⟩ = false := fun j => by rw [hb1.frozen (by simp)]; exact frozen_new w _ j
        have hc0 : w1.cell? ⟨w.heap.size, 0, none⟩ = some (.int .i64 0) := by rw [hcx]; simp [zeroTokP]
        have hc1 : w1.cell? ⟨w.heap.size, 1, none⟩ = some (.string ⟨#[]⟩) := by rw [hcx]; simp [zeroTokP]
        have hc2 : w1.cell? ⟨w.heap.size, 2, none⟩ = some (.int .i64 0) := by rw [hcx]; simp [zeroTokP]
        clear hcx
        have hlow : Below w.heap.size w w1 := ((Below.refl _ _).alloc (Nat.le_refl _) _).trans (hb1.mono (by simp))
        clear hb1
        have hfin : ∀ x y z, Below w.heap.size w (((w1.setCell ⟨w.heap.size, 0, none⟩ x).setCell ⟨w.heap.size, 1, none⟩ y).setCell ⟨w.heap.size, 2, none⟩ z) := fun x y z => ((hlow.setCell (Nat.le_refl _) x).setCell (Nat.le_refl _) y).setCell (Nat.le_refl _) z
        go_wp2_with fail
        refine bodyPost_ret (v := firV (none)) (by simp [results, Tryz.results124, go_sem, firV, hc0, hc1, hc2]) rfl ⟨by rw [← HQ.out, HX2.out], hfin _ _ _⟩
      | some x =>
        obtain ⟨v, m⟩ := x
        have HN0 := hide (show numV (numR s.data.toList) = .tuple #[.agg #[.int .i64 2, .string ⟨#[]⟩, .int .i64 v], .int .i64 m] from by rw [hn]; rfl)
        have HX2 := hide (show lex1 s.data.toList = some (⟨2, ⟨#[]⟩, v⟩, m) from by rw [HX.out, hn]; rfl)
        clear hn
        go_enter Tryz.func124, Tryz.ntmps124
        go_wp2_with fail
        refine (isDigit_any _ _).mono ?_
        rintro e w' ⟨rfl, rfl⟩
        go_wp2_with fail
        refine (number_is s _ _ h hs HN0.out).mono ?_
        rintro e w1 ⟨rfl, hb1⟩
        have hcx : ∀ j, w1.cell? ⟨w.heap.size, j, none⟩ = (w.alloc zeroTokP).cell? ⟨w.heap.size, j, none⟩ := fun j => hb1.cell (by simp)
        have hf0 : ∀ j, w1.frozen? ⟨w.heap.size, j, none⟩ = false := fun j => by rw [hb1.frozen (by simp)]; exact frozen_new w _ j
        have hc0 : w1.cell? ⟨w.heap.size, 0, none⟩ = some (.int .i64 0) := by rw [hcx]; simp [zeroTokP]
        have hc1 : w1.cell? ⟨w.heap.size, 1, none⟩ = some (.string ⟨#[]⟩) := by rw [hcx]; simp [zeroTokP]
        have hc2 : w1.cell? ⟨w.heap.size, 2, none⟩ = some (.int .i64 0) := by rw [hcx]; simp [zeroTokP]
        clear hcx
        have hlow : Below w.heap.size w w1 := ((Below.refl _ _).alloc (Nat.le_refl _) _).trans (hb1.mono (by simp))
        clear hb1
        have hfin : ∀ x y z, Below w.heap.size w (((w1.setCell ⟨w.heap.size, 0, none⟩ x).setCell ⟨w.heap.size, 1, none⟩ y).setCell ⟨w.heap.size, 2, none⟩ z) := fun x y z => ((hlow.setCell (Nat.le_refl _) x).setCell (Nat.le_refl _) y).setCell (Nat.le_refl _) z
        go_wp2_with fail
        refine bodyPost_ret (v := firV (some (⟨2, ⟨#[]⟩, v⟩, m))) (by simp [results, Tryz.results124, go_sem, firV, hc0, hc1, hc2]) rfl ⟨by rw [← HQ.out, HX2.out], hfin _ _ _⟩
  · have hdm := hide (show inB digmB s[0] = true from by rw [digm_cases, hdg]; rfl)
    have HX := hide (show lex1 s.data.toList = (numR s.data.toList).map fun x => (⟨2, ⟨#[]⟩, x.1⟩, x.2) from lex1_num s 0 h (digm_letters _ hdm.out) hdm.out)
    cases hn : numR s.data.toList with
    | none =>
      have HN0 := hide (show numV (numR s.data.toList) = .tuple #[.agg #[.int .i64 0, .string ⟨#[]⟩, .int .i64 0], .int .i64 0] from by rw [hn]; rfl)
      have HX2 := hide (show lex1 s.data.toList = none from by rw [HX.out, hn]; rfl)
      clear hn
      go_enter Tryz.func124, Tryz.ntmps124
      go_wp2_with fail
      refine (isDigit_any _ _).mono ?_
      rintro e w' ⟨rfl, rfl⟩
      go_wp2_with fail
      refine (number_is s _ _ h hs HN0.out).mono ?_
      rintro e w1 ⟨rfl, hb1⟩
      have hcx : ∀ j, w1.cell? ⟨w.heap.size, j, none⟩ = (w.alloc zeroTokP).cell? ⟨w.heap.size, j, none⟩ := fun j => hb1.cell (by simp)
      have hf0 : ∀ j, w1.frozen? ⟨w.heap.size, j, none⟩ = false := fun j => by rw [hb1.frozen (by simp)]; exact frozen_new w _ j
      have hc0 : w1.cell? ⟨w.heap.size, 0, none⟩ = some (.int .i64 0) := by rw [hcx]; simp [zeroTokP]
      have hc1 : w1.cell? ⟨w.heap.size, 1, none⟩ = some (.string ⟨#[]⟩) := by rw [hcx]; simp [zeroTokP]
      have hc2 : w1.cell? ⟨w.heap.size, 2, none⟩ = some (.int .i64 0) := by rw [hcx]; simp [zeroTokP]
      clear hcx
      have hlow : Below w.heap.size w w1 := ((Below.refl _ _).alloc (Nat.le_refl _) _).trans (hb1.mono (by simp))
      clear hb1
      have hfin : ∀ x y z, Below w.heap.size w (((w1.setCell ⟨w.heap.size, 0, none⟩ x).setCell ⟨w.heap.size, 1, none⟩ y).setCell ⟨w.heap.size, 2, none⟩ z) := fun x y z => ((hlow.setCell (Nat.le_refl _) x).setCell (Nat.le_refl _) y).setCell (Nat.le_refl _) z
      go_wp2_with fail
      refine bodyPost_ret (v := firV (none)) (by simp [results, Tryz.results124, go_sem, firV, hc0, hc1, hc2]) rfl ⟨by rw [← HQ.out, HX2.out], hfin _ _ _⟩
    | some x =>
      obtain ⟨v, m⟩ := x
      have HN0 := hide (show numV (numR s.data.toList) = .tuple #[.agg #[.int .i64 2, .string ⟨#[]⟩, .int .i64 v], .int .i64 m] from by rw [hn]; rfl)
      have HX2 := hide (show lex1 s.data.toList = some (⟨2, ⟨#[]⟩, v⟩, m) from by rw [HX.out, hn]; rfl)
      clear hn
      go_enter Tryz.func124, Tryz.ntmps124
      go_wp2_with fail
      refine (isDigit_any _ _).mono ?_
      rintro e w' ⟨rfl, rfl⟩
      go_wp2_with fail
      refine (number_is s _ _ h hs HN0.out).mono ?_
      rintro e w1 ⟨rfl, hb1⟩
      have hcx : ∀ j, w1.cell? ⟨w.heap.size, j, none⟩ = (w.alloc zeroTokP).cell? ⟨w.heap.size, j, none⟩ := fun j => hb1.cell (by simp)
      have hf0 : ∀ j, w1.frozen? ⟨w.heap.size, j, none⟩ = false := fun j => by rw [hb1.frozen (by simp)]; exact frozen_new w _ j
      have hc0 : w1.cell? ⟨w.heap.size, 0, none⟩ = some (.int .i64 0) := by rw [hcx]; simp [zeroTokP]
      have hc1 : w1.cell? ⟨w.heap.size, 1, none⟩ = some (.string ⟨#[]⟩) := by rw [hcx]; simp [zeroTokP]
      have hc2 : w1.cell? ⟨w.heap.size, 2, none⟩ = some (.int .i64 0) := by rw [hcx]; simp [zeroTokP]
      clear hcx
      have hlow : Below w.heap.size w w1 := ((Below.refl _ _).alloc (Nat.le_refl _) _).trans (hb1.mono (by simp))
      clear hb1
      have hfin : ∀ x y z, Below w.heap.size w (((w1.setCell ⟨w.heap.size, 0, none⟩ x).setCell ⟨w.heap.size, 1, none⟩ y).setCell ⟨w.heap.size, 2, none⟩ z) := fun x y z => ((hlow.setCell (Nat.le_refl _) x).setCell (Nat.le_refl _) y).setCell (Nat.le_refl _) z
      go_wp2_with fail
      refine bodyPost_ret (v := firV (some (⟨2, ⟨#[]⟩, v⟩, m))) (by simp [results, Tryz.results124, go_sem, firV, hc0, hc1, hc2]) rfl ⟨by rw [← HQ.out, HX2.out], hfin _ _ _⟩
end Go.Proofs.YtpggfgjongkihaaGreat
namespace Go.Proofs.YtpggfgjongkihaaGreat
open Go.RowKit
def prgTok (t : Tk) : List Value := [.int .i64 t.k, .string t.s, .int .i64 t.n]
def prgToks (ts : List Tk) : List Value := ts.flatMap prgTok
theorem prgToks_snoc (ts : List Tk) (t : Tk) : prgToks (ts ++ [t]) = prgToks ts ++ prgTok t := by simp [prgToks]
theorem first_is (s : ByteArray) (x : Value) (w : World) (h : 0 < s.size) (hs : s.size ≤ 100000) (hn : firV (lex1 s.data.toList) = x) :
    Calls Tryz.prog 124 #[.string s] w fun e w' => e = .returned x ∧ Below w.heap.size w w' := by
  subst hn; exact first_any s w h hs
theorem Tryz.info223 : (Tryz.prog.info? 223).map (fun i => (i.zero, i.size, i.bytes)) = some (some (.agg #[.int .i64 0, .string ⟨#[]⟩, .int .i64 0]), 3, 32) := by kernel_rfl
theorem lex_clean_bad (t : ByteArray) (h : 0 < t.size) (hc : clean t) (hx : lex1 t.data.toList = none) : lex t.data.toList = none := by
  rcases hc with hc | ⟨h', h1, h2⟩
  · omega
  · exact lex_at_bad t 0 h h1 h2 hx
theorem lex_clean_tok (t : ByteArray) (x : Tk) (m : Nat) (h : 0 < t.size) (hc : clean t) (hx : lex1 t.data.toList = some (x, m)) : lex t.data.toList = (lex (t.extract m t.size).data.toList).map (x :: ·) := by
  rcases hc with hc | ⟨h', h1, h2⟩
  · omega
  · have := lex_at_tok t 0 (x, m) h h1 h2 hx
    simp only [Nat.zero_add] at this
    rw [ext_drop, ← this]; rfl
theorem cut_long (s t : ByteArray) (ts : List Tk) (x : Tk) (r : List UInt8) (h : lex s.data.toList = (lex t.data.toList).map (ts ++ ·)) (hx : lex t.data.toList = (lex r).map (x :: ·)) (hl : ts.length = 800) : cutS s = none := by
  unfold cutS
  rw [h, hx]
  split
  · rfl
  · cases lex r with
    | none => rfl
    | some l => simp only [Option.map_some]; rw [if_neg (by simp; omega)]
theorem cut_ok (s : ByteArray) (ts : List Tk) (h0 : ¬ 4000 < s.size) (h : lex s.data.toList = some ts) (hl : ts.length ≤ 800) : cutS s = some ts := by
  unfold cutS; rw [if_neg h0, h]; simp only; rw [if_pos hl]
theorem rel_tok2 (s t r : ByteArray) (ts : List Tk) (x : Tk) (h : lex s.data.toList = (lex t.data.toList).map (ts ++ ·)) (hx : lex t.data.toList = (lex r.data.toList).map (x :: ·)) : lex s.data.toList = (lex r.data.toList).map ((ts ++ [x]) ++ ·) := by
  rw [h, hx]
  cases lex r.data.toList <;> simp

set_option maxHeartbeats 2000000 in
set_option maxRecDepth 100000 in
theorem prgCut_any (s : ByteArray) (w : World) (hs : s.size ≤ maxLen) :
    Calls Tryz.prog 92 #[.string s] w fun e w' => ∃ v b ts, e = .returned (.tuple #[v, .bool b]) ∧ Below w.heap.size w w' ∧ w'.ownsRow w.heap.size 223 3 v ts.length (prgToks ts) ∧ cutS s = (if b = true then some ts else none) ∧ (b = false → ts = [] ∧ v = .slice none 0 0) := by
  unfold maxLen at hs
  by_cases hbig : 4000 < s.size
  · go_enter Tryz.func92, Tryz.ntmps92
    go_wp2_with fail
    go_ret2
    exact ⟨_, _, [], rfl, Below.refl _ _, World.ownsRow_nil _ _ _ _, by simp [cutS, hbig], fun _ => ⟨rfl, rfl⟩⟩
  obtain ⟨i0, hi, hz0, hz1, hz2⟩ := info_parts Tryz.info223
  go_enter Tryz.func92, Tryz.ntmps92
  go_wp2_with fail
  refine (skip_any s _ (by omega)).mono ?_
  rintro e w1 ⟨t0, rfl, hcl, htz, hlx, hb0⟩
  have HC := hide hcl
  have HL := hide hlx
  have HB := hide hb0
  clear hcl hlx hb0
  go_wp2_with fail
  go_loopw [4, 5] (fun v i wr => ∃ (t : ByteArray) (ts : List Tk), i = .string t ∧ clean t ∧ t.size ≤ s.size ∧ wr.ownsRow w.heap.size 223 3 v ts.length (prgToks ts) ∧ ts.length ≤ 800 ∧ Below w.heap.size w wr ∧ lex s.data.toList = (lex t.data.toList).map (ts ++ ·)) (fun _ i _ => strLen i)
  case atStart => exact ⟨t0, [], rfl, HC.out, htz, World.ownsRow_nil _ _ _ _, by simp, HB.out, by rw [HL.out]; simp⟩
  case round =>
    obtain ⟨t, ts, rfl, hcl, htz, hown, htl, hbel, hrr⟩ := hrel
    have HR := hide hrr
    have HC := hide hcl
    clear hrr hcl
    have hwsz := hbel.size
    by_cases h0 : 0 < t.size
    · have hne := not_empty t h0
      cases hx : lex1 t.data.toList with
      | none =>
        have HX := hide (show firV (lex1 t.data.toList) = .tuple #[.agg #[.int .i64 0, .string ⟨#[]⟩, .int .i64 0], .int .i64 0] from by rw [hx]; rfl)
        have HE := hide (show cutS s = none from cut_none s (by rw [HR.out, lex_clean_bad t h0 HC.out hx]; rfl))
        clear hx
        go_wp2_with fail
        refine (first_is t _ _ h0 (by omega) HX.out).mono ?_
        rintro e w2 ⟨rfl, hb2⟩
        have hb3 := hbel.trans (hb2.mono hwsz)
        have hs3 := hb3.size
        clear hb2
        go_wp2_with fail
        go_ret2
        exact ⟨_, _, [], rfl, hb3.alloc hs3 _, World.ownsRow_nil _ _ _ _, by rw [HE.out]; simp, fun _ => ⟨rfl, rfl⟩⟩
      | some y =>
        obtain ⟨x, m⟩ := y
        have hsz := lex1_size _ _ hx
        simp only at hsz
        have hm0 : 0 < m := hsz.1
        have hm1 : m ≤ t.size := hsz.2
        have hm2 : ((m : Int) == 0) = false := by simp; omega
        have HX := hide (show firV (lex1 t.data.toList) = .tuple #[.agg #[.int .i64 x.k, .string x.s, .int .i64 x.n], .int .i64 m] from by rw [hx]; rfl)
        have HT := hide (lex_clean_tok t x m h0 HC.out hx)
        clear hx hsz
        obtain ⟨a0, cap, hv⟩ := own_slice hown
        subst hv
        by_cases h8 : ts.length = 800
        · have h8' : ((ts.length : Int) == 800) = true := by simp; omega
          have HE := hide (cut_long s t ts x _ HR.out HT.out h8)
          clear h8
          go_wp2_with fail
          refine (first_is t _ _ h0 (by omega) HX.out).mono ?_
          rintro e w2 ⟨rfl, hb2⟩
          have hb3 := hbel.trans (hb2.mono hwsz)
          have hs3 := hb3.size
          clear hb2
          go_wp2_with fail
          go_ret2
          exact ⟨_, _, [], rfl, hb3.alloc hs3 _, World.ownsRow_nil _ _ _ _, by rw [HE.out]; simp, fun _ => ⟨rfl, rfl⟩⟩
        · have h8' : ((ts.length : Int) == 800) = false := by simp; omega
          go_wp2_with fail
          refine (first_is t _ _ h0 (by omega) HX.out).mono ?_
          rintro e w2 ⟨rfl, hb2⟩
          have hb3 := hbel.trans (hb2.mono hwsz)
          have hs3 := hb3.size
          have hown2 := ownsRow_below hown hb2
          have hlt2 := hown.lt
          clear hb2
          go_wp2_with (at_builtin; refine wpList_append_own _ rfl _ _ 189 rfl w.heap.size 223 i0 _ 3 32 Tryz.underlying189 hi hz0 hz1 hz2 rfl (by decide) _ _ _ rfl ((hown2.alloc _).alloc _) ⟨w2.heap.size + 1, 0, none⟩ 1 1 [.int .i64 x.k, .string x.s, .int .i64 x.n] rfl rfl (cells_new' _ _ _ _ (by simp)) (one3 rfl rfl rfl) (by unfold maxLen; omega) (by omega) (by simp; omega) ?_; intro v' w3 hown' hgrow _)
          have hbel' : Below w.heap.size w w3 := Below.grown ((hb3.alloc hs3 _).alloc (by simp; omega) _) hgrow (by simp; omega) (fun k hk => (hlt2 k hk).1)
          have hown3 : w3.ownsRow w.heap.size 223 3 v' (ts ++ [x]).length (prgToks (ts ++ [x])) := by
            rw [prgToks_snoc, List.length_append]
            exact hown'
          have HN := hide (rel_tok2 s t _ ts x HR.out HT.out)
          clear hown' hgrow hown hown2 hb3 hbel
          refine (skip_any _ _ (by simp; omega)).mono ?_
          rintro e w4 ⟨t2, rfl, hcl2, htz2, hlx2, hb4⟩
          have HC2 := hide hcl2
          have HL2 := hide hlx2
          have htz3 : t2.size < t.size := by simp at htz2; omega
          have hown4 := ownsRow_below hown3 hb4
          have hb5 := hbel'.trans (hb4.mono hbel'.size)
          clear hcl2 hlx2 htz2 hb4
          go_wp2_with fail
          go_roundw
          case rel => exact ⟨t2, ts ++ [x], rfl, HC2.out, by omega, hown4, by simp; omega, hb5, by rw [HN.out, HL2.out]⟩
          case measure => simp only [strLen_string]; omega
    · have hne := empty_of t h0
      have HE := hide (show cutS s = some ts from cut_ok s ts hbig (by rw [HR.out, List.eq_nil_of_length_eq_zero (show t.data.toList.length = 0 by show t.size = 0; omega)]; simp [lex_nil]) htl)
      go_wp2_with fail
      go_ret2
      exact ⟨_, _, ts, rfl, hbel, hown, by rw [HE.out]; rfl, fun h => by cases h⟩
end Go.Proofs.YtpggfgjongkihaaGreat
