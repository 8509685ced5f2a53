/- The program's cutting: what it takes of package strings. The program's cutting: skip. The program's cutting: number. The program's cutting: quoted. -/
import Derived.Test.YtpggfgjongkihaaGreatM01
import Derived.Lib.Bytealg
namespace Go.Proofs.YtpggfgjongkihaaGreat
open Go.RowKit
set_option maxHeartbeats 1000000 in
set_option maxRecDepth 100000 in
theorem indexByte_any (s : ByteArray) (c : UInt8) (w : World) :
    Calls Tryz.prog 194 #[.string s, .int .u8 c.toNat] w fun e w' => e = .returned (.int .i64 (Lib.indexByte s.data.toList c)) ∧ w' = w := by
  have hc : ((c.toNat : Int).toNat.toUInt8) = c := by simp
  have HC := hide hc
  clear hc
  go_enter Tryz.func194, Tryz.ntmps194
  go_wp2
  rw [run_callFunc_extern Tryz.func211 (by kernel_rfl) (by kernel_rfl) (by kernel_rfl) (e := Extern.BytealgIndexByte.indexByte) (by kernel_rfl), Lib.run_indexByteString, HC.out]
  simp only [Result.andThen]
  rw [Oper.upon_value]
  go_wp2
  go_ret
  exact ⟨rfl, rfl⟩
set_option maxHeartbeats 1000000 in
theorem sIndexByte_any (s : ByteArray) (c : UInt8) (w : World) :
    Calls Tryz.prog 164 #[.string s, .int .u8 c.toNat] w fun e w' => e = .returned (.int .i64 (Lib.indexByte s.data.toList c)) ∧ w' = w := by
  go_enter Tryz.func164, Tryz.ntmps164
  go_wp2_with (go_at_call 194; refine (indexByte_any _ _ _).mono ?_; rintro e w' ⟨rfl, rfl⟩)
  go_ret
  exact ⟨rfl, rfl⟩
set_option maxHeartbeats 1000000 in
set_option maxRecDepth 100000 in
theorem index10_any (s : ByteArray) (w : World) (_hs : s.size ≤ 100000) :
    Calls Tryz.prog 209 #[.string s, .string ⟨#[10]⟩] w fun e w' => e = .returned (.int .i64 (Lib.indexByte s.data.toList 10)) ∧ w' = w := by
  cases he : (([10] : List UInt8) == s.toList)
  · go_enter Tryz.func209, Tryz.ntmps209
    go_wp2_with fail
    refine (indexByte_any s 10 _).mono ?_
    rintro e w' ⟨rfl, rfl⟩
    go_wp2_with fail
    go_ret
    exact ⟨rfl, rfl⟩
  · go_enter Tryz.func209, Tryz.ntmps209
    have HE := hide (show Lib.indexByte s.data.toList 10 = 0 by rw [← Lib.toList_data, ← (beq_iff_eq.1 he)]; rfl)
    go_wp2_with fail
    go_ret
    exact ⟨ret_int (by rw [HE.out]), rfl⟩
theorem indexByte_drop : ∀ (l : List UInt8), (Lib.indexByte l 10 = -1 ∧ l.dropWhile (· != 10) = []) ∨ ∃ i : Nat, Lib.indexByte l 10 = i ∧ i < l.length ∧ (l.dropWhile (· != 10)).drop 1 = l.drop (i + 1)
  | [] => Or.inl ⟨rfl, rfl⟩
  | c :: l => by
    by_cases h : c = 10
    · subst h; exact Or.inr ⟨0, rfl, by simp, by simp⟩
    · have e : Lib.indexByte (c :: l) 10 = if Lib.indexByte l 10 == -1 then -1 else Lib.indexByte l 10 + 1 := by
        rw [Lib.indexByte, if_neg (by simpa using h)]
      rw [List.dropWhile_cons_of_pos (by simpa using h), e]
      rcases indexByte_drop l with ⟨h1, h2⟩ | ⟨i, h1, h2, h3⟩
      · exact Or.inl ⟨by rw [h1]; rfl, h2⟩
      · refine Or.inr ⟨i + 1, ?_, by simp; omega, by rw [h3]; rfl⟩
        rw [h1, if_neg (by simp)]; omega
set_option maxHeartbeats 1000000 in
set_option maxRecDepth 100000 in
theorem lCut_any (s : ByteArray) (w : World) (hs : s.size ≤ 100000) :
    Calls Tryz.prog 190 #[.string s, .string ⟨#[10]⟩] w fun e w' => ∃ b a f, e = .returned (.tuple #[.string b, .string a, .bool f]) ∧ a.data.toList = (s.data.toList.dropWhile (· != 10)).drop 1 ∧ Below w.heap.size w w' := by
  rcases indexByte_drop s.data.toList with ⟨h1, h2⟩ | ⟨i, h1, h2, h3⟩
  · have H1 := hide h1
    have H2 := hide h2
    clear h1 h2
    go_enter Tryz.func190, Tryz.ntmps190
    go_wp2_with fail
    refine (index10_any s _ hs).mono ?_
    rw [H1.out]
    rintro e w' ⟨rfl, rfl⟩
    go_wp2_with fail
    go_ret3
    exact ⟨_, _, _, rfl, by rw [H2.out]; rfl, Below.refl _ _⟩
  · have H1 := hide h1
    have H3 := hide h3
    have hi : i < s.size := h2
    clear h1 h2 h3
    go_enter Tryz.func190, Tryz.ntmps190
    go_wp2_with fail
    refine (index10_any s _ hs).mono ?_
    rw [H1.out]
    rintro e w' ⟨rfl, rfl⟩
    go_wp2_with fail
    go_region
    all_goals (try go_wp2)
    all_goals go_ret3
    all_goals exact ⟨_, _, _, rfl, by rw [H3.out, Lib.extract_data, List.take_of_length_le (by simp)], by first | exact Below.refl _ _ | exact (Below.refl _ _).drew⟩
set_option maxHeartbeats 1000000 in
theorem sCut_any (s : ByteArray) (w : World) (hs : s.size ≤ 100000) :
    Calls Tryz.prog 157 #[.string s, .string ⟨#[10]⟩] w fun e w' => ∃ b a f, e = .returned (.tuple #[.string b, .string a, .bool f]) ∧ a.data.toList = (s.data.toList.dropWhile (· != 10)).drop 1 ∧ Below w.heap.size w w' := by
  go_enter Tryz.func157, Tryz.ntmps157
  go_wp2_with fail
  refine (lCut_any s _ hs).mono ?_
  rintro e w' ⟨b, a, f, rfl, ha, hb⟩
  have HA := hide ha
  have HB := hide hb
  clear ha hb
  go_wp2_with fail
  go_ret3
  exact ⟨_, _, _, rfl, HA.out, HB.out⟩
end Go.Proofs.YtpggfgjongkihaaGreat
namespace Go.Proofs.YtpggfgjongkihaaGreat
open Go.RowKit
def strLen : Value → Nat
  | .string t => t.size
  | _ => 0
theorem strLen_string (t : ByteArray) : strLen (.string t) = t.size := rfl
def clean (t : ByteArray) : Prop := t.size = 0 ∨ ∃ h : 0 < t.size, inB blankB t[0] = false ∧ ¬ t[0] = 35
theorem data_cons (t : ByteArray) (h : 0 < t.size) : t.data.toList = t[0] :: (t.extract 1 t.size).data.toList := by
  have := drop_cons t 0 h
  rw [List.drop_zero] at this
  rw [this, Lib.extract_data, List.take_of_length_le (by simp)]
theorem inB_blank (c : UInt8) : inB blankB c = true ↔ c = 32 ∨ c = 9 ∨ c = 13 ∨ c = 10 ∨ c = 44 := by
  simp [inB, blankB]
theorem lex_hash2 (r : List UInt8) : lex (35 :: r) = lex ((r.dropWhile (· != 10)).drop 1) := by
  rw [lex_hash]
  cases h : r.dropWhile (· != 10) with
  | nil => rfl
  | cons a l =>
    have : a = 10 := by
      have := List.head?_dropWhile_not (· != 10) r
      rw [h] at this
      simpa using this
    subst this
    rw [lex_blank _ _ (by decide)]; rfl
theorem not_empty (t : ByteArray) (h : 0 < t.size) : t.toList.isEmpty = false := by
  rw [Lib.toList_data, data_cons t h]; rfl
theorem empty_of (t : ByteArray) (h : ¬ 0 < t.size) : t.toList.isEmpty = true := by
  rw [Lib.toList_data, List.eq_nil_of_length_eq_zero (show t.data.toList.length = 0 by show t.size = 0; omega)]; rfl
theorem size_rest (t : ByteArray) (_h : 0 < t.size) : (t.extract 1 t.size).size = t.size - 1 := by simp

set_option maxHeartbeats 1000000 in
set_option maxRecDepth 100000 in
theorem skip_any (s : ByteArray) (w : World) (hs : s.size ≤ 100000) :
    Calls Tryz.prog 123 #[.string s] w fun e w' => ∃ t, e = .returned (.string t) ∧ clean t ∧ t.size ≤ s.size ∧ lex s.data.toList = lex t.data.toList ∧ Below w.heap.size w w' := by
  go_enter Tryz.func123, Tryz.ntmps123
  go_wp2_with fail
  go_loopw [0] (fun v wr => ∃ t : ByteArray, v = .string t ∧ t.size ≤ s.size ∧ lex s.data.toList = lex t.data.toList ∧ Below w.heap.size w wr) (fun v _ => strLen v)
  case atStart => exact ⟨s, rfl, Nat.le_refl _, rfl, Below.refl _ _⟩
  case round =>
    obtain ⟨t, rfl, hts, hrr, hbel⟩ := hrel
    have HR := hide hrr
    clear hrr
    by_cases h0 : 0 < t.size
    · have hne := not_empty t h0
      cases g32 : ((t[0].toNat : Int) == 32)
      · cases g9 : ((t[0].toNat : Int) == 9)
        · cases g13 : ((t[0].toNat : Int) == 13)
          · cases g10 : ((t[0].toNat : Int) == 10)
            · cases g44 : ((t[0].toNat : Int) == 44)
              · have nb := hide (show inB blankB t[0] = false from by
                  cases hx : inB blankB t[0]
                  · rfl
                  · rcases (inB_blank _).1 hx with e | e | e | e | e
                    · rw [e] at g32; simp at g32
                    · rw [e] at g9; simp at g9
                    · rw [e] at g13; simp at g13
                    · rw [e] at g10; simp at g10
                    · rw [e] at g44; simp at g44)
                cases g35 : ((t[0].toNat : Int) == 35)
                · have n35 := hide (show ¬ t[0] = 35 from by intro e; rw [e] at g35; simp at g35)
                  go_wp2_with fail
                  go_ret
                  exact ⟨t, rfl, Or.inr ⟨h0, nb.out, n35.out⟩, hts, HR.out, hbel⟩
                · have e35 := hide (show t[0] = 35 from u8_of_int (by simpa using g35))
                  go_wp2_with fail
                  refine (sCut_any t _ (by omega)).mono ?_
                  rintro e w1 ⟨b, a, f, rfl, ha, hb1⟩
                  have HA := hide ha
                  have hsz : a.size < t.size := by
                    have h1 : a.size = a.data.toList.length := rfl
                    have h2 := dropWhile_le (· != 10) t.data.toList
                    have h3 : t.data.toList.length = t.size := rfl
                    rw [h1, ha, List.length_drop]; omega
                  have hb2 := hbel.trans (hb1.mono hbel.size)
                  clear ha hb1
                  go_wp2_with fail
                  go_roundw
                  case rel => exact ⟨a, rfl, by omega, by rw [HR.out, data_cons t h0, e35.out, lex_hash2, HA.out, data_cons t h0, e35.out]; rfl, hb2⟩
                  case measure => simp only [strLen_string]; omega
              · have HB := hide (show lex t.data.toList = lex (t.extract 1 t.size).data.toList from by rw [data_cons t h0]; exact lex_blank _ _ ((inB_blank _).2 (by rw [show t[0] = 44 from u8_of_int (by simpa using g44)]; decide)))
                go_wp2_with fail
                go_roundw
                case rel => exact ⟨_, rfl, by simp; omega, by rw [HR.out, HB.out], hbel⟩
                case measure => simp only [strLen_string, ByteArray.size_extract]; omega
            · have HB := hide (show lex t.data.toList = lex (t.extract 1 t.size).data.toList from by rw [data_cons t h0]; exact lex_blank _ _ ((inB_blank _).2 (by rw [show t[0] = 10 from u8_of_int (by simpa using g10)]; decide)))
              go_wp2_with fail
              go_roundw
              case rel => exact ⟨_, rfl, by simp; omega, by rw [HR.out, HB.out], hbel⟩
              case measure => simp only [strLen_string, ByteArray.size_extract]; omega
          · have HB := hide (show lex t.data.toList = lex (t.extract 1 t.size).data.toList from by rw [data_cons t h0]; exact lex_blank _ _ ((inB_blank _).2 (by rw [show t[0] = 13 from u8_of_int (by simpa using g13)]; decide)))
            go_wp2_with fail
            go_roundw
            case rel => exact ⟨_, rfl, by simp; omega, by rw [HR.out, HB.out], hbel⟩
            case measure => simp only [strLen_string, ByteArray.size_extract]; omega
        · have HB := hide (show lex t.data.toList = lex (t.extract 1 t.size).data.toList from by rw [data_cons t h0]; exact lex_blank _ _ ((inB_blank _).2 (by rw [show t[0] = 9 from u8_of_int (by simpa using g9)]; decide)))
          go_wp2_with fail
          go_roundw
          case rel => exact ⟨_, rfl, by simp; omega, by rw [HR.out, HB.out], hbel⟩
          case measure => simp only [strLen_string, ByteArray.size_extract]; omega
      · have HB := hide (show lex t.data.toList = lex (t.extract 1 t.size).data.toList from by rw [data_cons t h0]; exact lex_blank _ _ ((inB_blank _).2 (by rw [show t[0] = 32 from u8_of_int (by simpa using g32)]; decide)))
        go_wp2_with fail
        go_roundw
        case rel => exact ⟨_, rfl, by simp; omega, by rw [HR.out, HB.out], hbel⟩
        case measure => simp only [strLen_string, ByteArray.size_extract]; omega
    · have hne := empty_of t h0
      go_wp2_with fail
      go_ret
      exact ⟨t, rfl, Or.inl (by omega), hts, HR.out, hbel⟩
end Go.Proofs.YtpggfgjongkihaaGreat
namespace Go.Proofs.YtpggfgjongkihaaGreat
open Go.RowKit
theorem runLen_end : ∀ (l : List UInt8) (o : ByteArray) (c : UInt8), l[runLen l o]? = some c → inB o c = false
  | [], _, _, h => by simp at h
  | a :: l, o, c, h => by
    by_cases ha : inB o a = true
    · have e : runLen (a :: l) o = runLen l o + 1 := by simp [runLen, ha]
      rw [e] at h
      exact runLen_end l o c (by simpa using h)
    · have e : runLen (a :: l) o = 0 := by simp [runLen, ha]
      rw [e] at h
      simp at h
      rw [← h]; simpa using ha
theorem runLen_at (l : List UInt8) (o : ByteArray) (i : Nat) (c : UInt8) (hi : i < runLen l o) (h : l[i]? = some c) : inB o c = true := by
  refine runLen_take l o c ?_
  have : (l.take (runLen l o))[i]? = some c := by rw [List.getElem?_take_of_lt hi]; exact h
  exact List.mem_of_getElem? this
theorem runLen_mono : ∀ (l : List UInt8) (o p : ByteArray), (∀ c, inB o c = true → inB p c = true) → runLen l o ≤ runLen l p
  | [], _, _, _ => by simp [runLen]
  | a :: l, o, p, h => by
    by_cases ha : inB o a = true
    · have e1 : runLen (a :: l) o = runLen l o + 1 := by simp [runLen, ha]
      have e2 : runLen (a :: l) p = runLen l p + 1 := by simp [runLen, h a ha]
      have := runLen_mono l o p h
      omega
    · have e : runLen (a :: l) o = 0 := by simp [runLen, ha]
      omega
theorem word_cases (c : UInt8) : inB wordB c = (inB digitsB c || inB lettersB c) := by
  have h : ∀ i : Fin 256, inB wordB (UInt8.ofFin i) = (inB digitsB (UInt8.ofFin i) || inB lettersB (UInt8.ofFin i)) := by decide +kernel
  exact h c.toFin
theorem runs (d : List UInt8) : runLen d digitsB ≤ runLen d wordB ∧ (runLen d digitsB < runLen d wordB → 0 < runLen (d.drop (runLen d digitsB)) lettersB) ∧ (runLen d digitsB = runLen d wordB → runLen (d.drop (runLen d digitsB)) lettersB = 0) := by
  have h1 := runLen_mono d digitsB wordB (fun c hc => by rw [word_cases, hc]; rfl)
  have hl := runLen_le d wordB
  refine ⟨h1, ?_, ?_⟩
  · intro h
    obtain ⟨c, hc⟩ : ∃ c, d[runLen d digitsB]? = some c := ⟨_, List.getElem?_eq_getElem (by omega)⟩
    have a1 := runLen_end d digitsB c hc
    have a2 := runLen_at d wordB _ c h hc
    rw [word_cases, a1, Bool.false_or] at a2
    have e : d.drop (runLen d digitsB) = c :: d.drop (runLen d digitsB + 1) := by
      rw [List.drop_eq_getElem_cons (by omega)]
      congr 1
      have := List.getElem?_eq_getElem (l := d) (i := runLen d digitsB) (by omega)
      rw [this] at hc; exact Option.some.inj hc
    rw [e]; simp [runLen, a2]
  · intro h
    cases hx : d.drop (runLen d digitsB) with
    | nil => rfl
    | cons c r =>
      have hc : d[runLen d wordB]? = some c := by
        rw [← h]
        have := congrArg List.head? hx
        rw [List.head?_drop] at this
        exact this
      have a2 := runLen_end d wordB c hc
      rw [word_cases] at a2
      have : inB lettersB c = false := by revert a2; cases inB lettersB c <;> simp
      simp [runLen, this]
theorem numR_eq (l : List UInt8) (sg : Nat) (hsg : sg = if l.head? = some 45 then 1 else 0) :
    numR l = if runLen (l.drop sg) digitsB < 1 ∨ 9 < runLen (l.drop sg) digitsB ∨ 0 < runLen ((l.drop sg).drop (runLen (l.drop sg) digitsB)) lettersB ∨ (1 < runLen (l.drop sg) digitsB ∧ (l.drop sg).head? = some 48) then none
      else some (if sg = 1 then - numVal ((l.drop sg).take (runLen (l.drop sg) digitsB)) 0 else numVal ((l.drop sg).take (runLen (l.drop sg) digitsB)) 0, sg + runLen (l.drop sg) digitsB) := by
  subst hsg
  unfold numR
  simp only [List.drop_drop]
theorem numR_bad (l : List UInt8) (sg : Nat) (hsg : sg = if l.head? = some 45 then 1 else 0) (h : runLen (l.drop sg) wordB = 0 ∨ 9 < runLen (l.drop sg) wordB ∨ (1 < runLen (l.drop sg) wordB ∧ (l.drop sg).head? = some 48) ∨ ∃ j c, j < runLen (l.drop sg) wordB ∧ (l.drop sg)[j]? = some c ∧ inB digitsB c = false) : numR l = none := by
  rw [numR_eq l sg hsg]
  obtain ⟨r1, r2, r3⟩ := runs (l.drop sg)
  rw [if_pos]
  rcases h with h | h | h | ⟨j, c, h1, h2, h3⟩
  · omega
  · by_cases e : runLen (l.drop sg) digitsB = runLen (l.drop sg) wordB
    · omega
    · have := r2 (by omega); omega
  · by_cases e : runLen (l.drop sg) digitsB = runLen (l.drop sg) wordB
    · exact Or.inr (Or.inr (Or.inr ⟨by omega, h.2⟩))
    · have := r2 (by omega); omega
  · have e : runLen (l.drop sg) digitsB < runLen (l.drop sg) wordB := by
      by_cases e : runLen (l.drop sg) digitsB = runLen (l.drop sg) wordB
      · have := runLen_at (l.drop sg) digitsB j c (by omega) h2
        rw [h3] at this; cases this
      · omega
    have := r2 e; omega
theorem numR_good (l : List UInt8) (sg : Nat) (hsg : sg = if l.head? = some 45 then 1 else 0) (h1 : 0 < runLen (l.drop sg) wordB) (h2 : runLen (l.drop sg) wordB ≤ 9) (h3 : ¬ (1 < runLen (l.drop sg) wordB ∧ (l.drop sg).head? = some 48)) (h4 : ∀ c ∈ (l.drop sg).take (runLen (l.drop sg) wordB), inB digitsB c = true) :
    numR l = some (if sg = 1 then - numVal ((l.drop sg).take (runLen (l.drop sg) wordB)) 0 else numVal ((l.drop sg).take (runLen (l.drop sg) wordB)) 0, sg + runLen (l.drop sg) wordB) := by
  rw [numR_eq l sg hsg]
  obtain ⟨r1, r2, r3⟩ := runs (l.drop sg)
  have hl := runLen_le (l.drop sg) wordB
  have e : runLen (l.drop sg) digitsB = runLen (l.drop sg) wordB := by
    rcases Nat.lt_or_ge (runLen (l.drop sg) digitsB) (runLen (l.drop sg) wordB) with h | h
    · exfalso
      obtain ⟨c, hc⟩ : ∃ c, (l.drop sg)[runLen (l.drop sg) digitsB]? = some c := ⟨_, List.getElem?_eq_getElem (by omega)⟩
      have a1 := runLen_end _ digitsB c hc
      have : c ∈ (l.drop sg).take (runLen (l.drop sg) wordB) := by
        have : ((l.drop sg).take (runLen (l.drop sg) wordB))[runLen (l.drop sg) digitsB]? = some c := by rw [List.getElem?_take_of_lt h]; exact hc
        exact List.mem_of_getElem? this
      rw [h4 c this] at a1; cases a1
    · omega
  have m0 := r3 e
  have hn : ¬ (runLen (l.drop sg) digitsB < 1 ∨ 9 < runLen (l.drop sg) digitsB ∨ 0 < runLen ((l.drop sg).drop (runLen (l.drop sg) digitsB)) lettersB ∨ (1 < runLen (l.drop sg) digitsB ∧ (l.drop sg).head? = some 48)) := by
    rw [m0, e]
    rintro (x | x | x | x)
    · omega
    · omega
    · omega
    · exact h3 x
  rw [if_neg hn, e]
theorem ext_take (d : ByteArray) (k : Nat) : (d.extract 0 k).data.toList = d.data.toList.take k := by
  rw [Lib.extract_data]; simp
def trimM (s : ByteArray) : ByteArray := if s.data.toList.head? = some 45 then s.extract 1 s.size else s
theorem head_minus (s : ByteArray) : ((s.extract 0 1).toList == [45]) = decide (s.data.toList.head? = some 45) := by
  rw [Lib.toList_data, ext_take]
  cases s.data.toList with
  | nil => rfl
  | cons a l => rw [Bool.eq_iff_iff]; simp
set_option maxHeartbeats 1000000 in
theorem trim_any (s : ByteArray) (w : World) (h : 0 < s.size) (hs : s.size ≤ 100000) :
    Calls Tryz.prog 191 #[.string s, .string ⟨#[45]⟩] w fun e w' => e = .returned (.string (trimM s)) ∧ w' = w := by
  have h1 : 1 ≤ (s.size : Int) := by omega
  cases hm : ((s.extract 0 1).toList == [45])
  · have HE := hide (show trimM s = s from by unfold trimM; rw [if_neg (by simpa [head_minus] using hm)])
    go_enter Tryz.func191, Tryz.ntmps191
    go_wp2
    go_ret
    exact ⟨by rw [HE.out]; rfl, rfl⟩
  · have HE := hide (show trimM s = s.extract 1 s.size from by unfold trimM; rw [if_pos (by simpa [head_minus] using hm)])
    go_enter Tryz.func191, Tryz.ntmps191
    go_wp2
    go_ret
    exact ⟨by rw [HE.out]; rfl, rfl⟩
theorem trim_data (s : ByteArray) (sg : Nat) (hsg : sg = if s.data.toList.head? = some 45 then 1 else 0) : (trimM s).data.toList = s.data.toList.drop sg := by
  subst hsg
  unfold trimM
  split
  · rw [Lib.extract_data, List.take_of_length_le (by simp)]
  · simp
theorem head_zero (g : ByteArray) (h : 0 < g.size) : ((g[0].toNat : Int) == 48) = decide (g.data.toList.head? = some 48) := by
  rw [data_cons g h, byte_eq48]; simp
theorem get_snoc (g : ByteArray) (j : Nat) (h : j < g.size) : g.data.toList.take (j + 1) = g.data.toList.take j ++ [g[j]] := take_snoc g j h
theorem get_at (g : ByteArray) (j : Nat) (h : j < g.size) : g.data.toList[j]? = some g[j] := by
  rw [List.getElem?_eq_getElem (by simpa using h)]; rfl

set_option maxHeartbeats 2000000 in
set_option maxRecDepth 100000 in
theorem number_any (s : ByteArray) (w : World) (h : 0 < s.size) (hs : s.size ≤ 100000) :
    Calls Tryz.prog 159 #[.string s] w fun e w' => e = .returned (numV (numR s.data.toList)) ∧ Below w.heap.size w w' := by
  generalize hq : numV (numR s.data.toList) = q
  have HQ := hide hq
  clear hq
  have hsg0 : s.data.toList.head? = some s[0] := by rw [data_cons s h]; rfl
  cases hsg : ((s[0].toNat : Int) == 45)
  · have HG := hide (show 0 = if s.data.toList.head? = some 45 then 1 else 0 from by simpa [byte_eq45, hsg0] using hsg)
    have hdd := trim_data s 0 HG.out
    have hdz : (trimM s).size ≤ s.size := by
      have h1 : (trimM s).size = (trimM s).data.toList.length := rfl
      have h2 : s.size = s.data.toList.length := rfl
      rw [h1, h2, hdd]; simp
    go_enter Tryz.func159, Tryz.ntmps159
    go_wp2_with fail
    refine (trim_any s _ h hs).mono ?_
    rintro e w' ⟨rfl, rfl⟩
    generalize trimM s = d at *
    have HD := hide hdd
    clear hdd
    have hkl := runLen_le d.data.toList wordB
    rw [Array.length_toList, show d.data.size = d.size from rfl] at hkl
    generalize hk : runLen d.data.toList wordB = k at *
    have HK := hide hk
    go_wp2_with fail
    refine (wordSize_any d _ (by omega)).mono ?_
    rw [hk]
    rintro e w' ⟨rfl, rfl⟩
    clear hk
    obtain ⟨g, hg⟩ : ∃ g, d.extract 0 k = g := ⟨_, rfl⟩
    have hgs : g.size = k := by rw [← hg]; simp; omega
    have HT := hide (show g.data.toList = d.data.toList.take k from by rw [← hg, ext_take])
    by_cases c1 : k = 0
    · have c1' : ((k : Int) == 0) = true := by simp; omega
      have HX := hide (show numR s.data.toList = none from numR_bad _ 0 HG.out (by rw [← HD.out, HK.out]; exact Or.inl c1))
      go_wp2_with fail
      refine bodyPost_ret (v := numV none) (by simp [results, Tryz.results159, go_sem, numV]) rfl ⟨by rw [← HQ.out, HX.out], (Below.refl _ _).alloc (Nat.le_refl _) _⟩
    have c1' : ((k : Int) == 0) = false := by simp; omega
    by_cases c2 : 9 < k
    · have HX := hide (show numR s.data.toList = none from numR_bad _ 0 HG.out (by rw [← HD.out, HK.out]; exact Or.inr (Or.inl c2)))
      go_wp2_with fail
      refine bodyPost_ret (v := numV none) (by simp [results, Tryz.results159, go_sem, numV]) rfl ⟨by rw [← HQ.out, HX.out], (Below.refl _ _).alloc (Nat.le_refl _) _⟩
    have hg0 : 0 < g.size := by omega
    have hz0 := head_zero g hg0
    have HZ := hide (show g.data.toList.head? = d.data.toList.head? from by rw [HT.out, List.head?_take, if_neg c1])
    by_cases c3 : 1 < k
    · cases hz : ((g[0].toNat : Int) == 48)
      · have H0 := hide (show ¬ (1 < k ∧ d.data.toList.head? = some 48) from by rw [← HZ.out]; rw [hz0] at hz; intro x; simp [x.2] at hz)
        clear hz0
        go_wp2_with fail
        go_loop [5, 34] (fun v i => ∃ j : Nat, j ≤ k ∧ i = .int .i64 j ∧ v = .int .i64 (numVal (g.data.toList.take j) 0) ∧ ∀ c ∈ g.data.toList.take j, inB digitsB c = true) (fun _ i => k - (intOf i).toNat)
        case atStart => exact ⟨0, Nat.zero_le _, rfl, by simp [numVal], by simp⟩
        case round =>
          obtain ⟨j, hj, rfl, rfl, hall⟩ := hrel
          have hb := numVal_bound (g.data.toList.take j) hall 9 (by have := List.length_take_le j g.data.toList; omega)
          have hb2 : numVal (g.data.toList.take j) 0 < 1000000000 := hb.2
          have hb1 := hb.1
          have HA := hide hall
          clear hall hb
          by_cases hlt : j < k
          · have hjg : j < g.size := by omega
            have HS := hide (get_snoc g j hjg)
            cases hdg : inB digitsB g[j]
            · have HX := hide (show numR s.data.toList = none from numR_bad _ 0 HG.out (by rw [← HD.out, HK.out]; exact Or.inr (Or.inr (Or.inr ⟨j, g[j], hlt, by rw [← get_at g j hjg, HT.out, List.getElem?_take_of_lt hlt], hdg⟩))))
              go_wp2_with (go_at_call 158; refine (isDigit_any _ _).mono ?_; rintro e w' ⟨rfl, rfl⟩)
              refine bodyPost_ret (v := numV none) (by simp [results, Tryz.results159, go_sem, numV]) rfl ⟨by rw [← HQ.out, HX.out], (Below.refl _ _).alloc (Nat.le_refl _) _⟩
            · have hd := (inB_digits _).1 hdg
              have hd1 := hd.1
              have hd2 := hd.2
              clear hd
              have HN := hide (show numVal (g.data.toList.take (j + 1)) 0 = numVal (g.data.toList.take j) 0 * 10 + ((g[j].toNat : Int) - 48) from by rw [HS.out, numVal_snoc]; omega)
              have HA2 := hide (show ∀ c ∈ g.data.toList.take (j + 1), inB digitsB c = true from by
                rw [HS.out]; intro c hc
                rcases List.mem_append.1 hc with x | x
                · exact HA.out c x
                · simp at x; rw [x]; exact hdg)
              generalize hv : numVal (g.data.toList.take j) 0 = v at *
              clear hv
              go_wp2_with (go_at_call 158; refine (isDigit_any _ _).mono ?_; rintro e w' ⟨rfl, rfl⟩)
              go_round
              case rel => exact ⟨j + 1, by omega, by go_num, by rw [HN.out], HA2.out⟩
              case measure => simp [intOf]; omega
          · have e : j = k := by omega
            subst e
            have HE := hide (show numR s.data.toList = some (numVal (g.data.toList.take j) 0, 0 + j) from by
              rw [numR_good _ 0 HG.out (by rw [← HD.out, HK.out]; omega) (by rw [← HD.out, HK.out]; omega) (by rw [← HD.out, HK.out]; exact H0.out) (by rw [← HD.out, HK.out, ← HT.out]; intro c hc; exact HA.out c (by rw [List.take_of_length_le (by show g.size ≤ j; omega)]; exact hc)), ← HD.out, HK.out]
              rw [if_neg (by decide)]
              rw [HT.out, List.take_take, Nat.min_self])
            generalize hv : numVal (g.data.toList.take j) 0 = v at *
            clear hv
            go_wp2_with fail
            refine bodyPost_ret (v := numV (some (v, 0 + j))) (by simp [results, Tryz.results159, go_sem, numV]) rfl ⟨by rw [← HQ.out, HE.out], (Below.refl _ _).alloc (Nat.le_refl _) _⟩
      · have H0 := hide (show 1 < k ∧ d.data.toList.head? = some 48 from ⟨c3, by rw [← HZ.out]; rw [hz0] at hz; simpa using hz⟩)
        clear hz0
        have HX := hide (show numR s.data.toList = none from numR_bad _ 0 HG.out (by rw [← HD.out, HK.out]; exact Or.inr (Or.inr (Or.inl H0.out))))
        go_wp2_with fail
        refine bodyPost_ret (v := numV none) (by simp [results, Tryz.results159, go_sem, numV]) rfl ⟨by rw [← HQ.out, HX.out], (Below.refl _ _).alloc (Nat.le_refl _) _⟩
    · have H0 := hide (show ¬ (1 < k ∧ d.data.toList.head? = some 48) from fun x => c3 x.1)
      clear hz0
      go_wp2_with fail
      go_loop [5, 34] (fun v i => ∃ j : Nat, j ≤ k ∧ i = .int .i64 j ∧ v = .int .i64 (numVal (g.data.toList.take j) 0) ∧ ∀ c ∈ g.data.toList.take j, inB digitsB c = true) (fun _ i => k - (intOf i).toNat)
      case atStart => exact ⟨0, Nat.zero_le _, rfl, by simp [numVal], by simp⟩
      case round =>
        obtain ⟨j, hj, rfl, rfl, hall⟩ := hrel
        have hb := numVal_bound (g.data.toList.take j) hall 9 (by have := List.length_take_le j g.data.toList; omega)
        have hb2 : numVal (g.data.toList.take j) 0 < 1000000000 := hb.2
        have hb1 := hb.1
        have HA := hide hall
        clear hall hb
        by_cases hlt : j < k
        · have hjg : j < g.size := by omega
          have HS := hide (get_snoc g j hjg)
          cases hdg : inB digitsB g[j]
          · have HX := hide (show numR s.data.toList = none from numR_bad _ 0 HG.out (by rw [← HD.out, HK.out]; exact Or.inr (Or.inr (Or.inr ⟨j, g[j], hlt, by rw [← get_at g j hjg, HT.out, List.getElem?_take_of_lt hlt], hdg⟩))))
            go_wp2_with (go_at_call 158; refine (isDigit_any _ _).mono ?_; rintro e w' ⟨rfl, rfl⟩)
            refine bodyPost_ret (v := numV none) (by simp [results, Tryz.results159, go_sem, numV]) rfl ⟨by rw [← HQ.out, HX.out], (Below.refl _ _).alloc (Nat.le_refl _) _⟩
          · have hd := (inB_digits _).1 hdg
            have hd1 := hd.1
            have hd2 := hd.2
            clear hd
            have HN := hide (show numVal (g.data.toList.take (j + 1)) 0 = numVal (g.data.toList.take j) 0 * 10 + ((g[j].toNat : Int) - 48) from by rw [HS.out, numVal_snoc]; omega)
            have HA2 := hide (show ∀ c ∈ g.data.toList.take (j + 1), inB digitsB c = true from by
              rw [HS.out]; intro c hc
              rcases List.mem_append.1 hc with x | x
              · exact HA.out c x
              · simp at x; rw [x]; exact hdg)
            generalize hv : numVal (g.data.toList.take j) 0 = v at *
            clear hv
            go_wp2_with (go_at_call 158; refine (isDigit_any _ _).mono ?_; rintro e w' ⟨rfl, rfl⟩)
            go_round
            case rel => exact ⟨j + 1, by omega, by go_num, by rw [HN.out], HA2.out⟩
            case measure => simp [intOf]; omega
        · have e : j = k := by omega
          subst e
          have HE := hide (show numR s.data.toList = some (numVal (g.data.toList.take j) 0, 0 + j) from by
            rw [numR_good _ 0 HG.out (by rw [← HD.out, HK.out]; omega) (by rw [← HD.out, HK.out]; omega) (by rw [← HD.out, HK.out]; exact H0.out) (by rw [← HD.out, HK.out, ← HT.out]; intro c hc; exact HA.out c (by rw [List.take_of_length_le (by show g.size ≤ j; omega)]; exact hc)), ← HD.out, HK.out]
            rw [if_neg (by decide)]
            rw [HT.out, List.take_take, Nat.min_self])
          generalize hv : numVal (g.data.toList.take j) 0 = v at *
          clear hv
          go_wp2_with fail
          refine bodyPost_ret (v := numV (some (v, 0 + j))) (by simp [results, Tryz.results159, go_sem, numV]) rfl ⟨by rw [← HQ.out, HE.out], (Below.refl _ _).alloc (Nat.le_refl _) _⟩
  · have HG := hide (show 1 = if s.data.toList.head? = some 45 then 1 else 0 from by simpa [byte_eq45, hsg0] using hsg)
    have hdd := trim_data s 1 HG.out
    have hdz : (trimM s).size ≤ s.size := by
      have h1 : (trimM s).size = (trimM s).data.toList.length := rfl
      have h2 : s.size = s.data.toList.length := rfl
      rw [h1, h2, hdd]; simp
    go_enter Tryz.func159, Tryz.ntmps159
    go_wp2_with fail
    refine (trim_any s _ h hs).mono ?_
    rintro e w' ⟨rfl, rfl⟩
    generalize trimM s = d at *
    have HD := hide hdd
    clear hdd
    have hkl := runLen_le d.data.toList wordB
    rw [Array.length_toList, show d.data.size = d.size from rfl] at hkl
    generalize hk : runLen d.data.toList wordB = k at *
    have HK := hide hk
    go_wp2_with fail
    refine (wordSize_any d _ (by omega)).mono ?_
    rw [hk]
    rintro e w' ⟨rfl, rfl⟩
    clear hk
    obtain ⟨g, hg⟩ : ∃ g, d.extract 0 k = g := ⟨_, rfl⟩
    have hgs : g.size = k := by rw [← hg]; simp; omega
    have HT := hide (show g.data.toList = d.data.toList.take k from by rw [← hg, ext_take])
    by_cases c1 : k = 0
    · have c1' : ((k : Int) == 0) = true := by simp; omega
      have HX := hide (show numR s.data.toList = none from numR_bad _ 1 HG.out (by rw [← HD.out, HK.out]; exact Or.inl c1))
      go_wp2_with fail
      refine bodyPost_ret (v := numV none) (by simp [results, Tryz.results159, go_sem, numV]) rfl ⟨by rw [← HQ.out, HX.out], (Below.refl _ _).alloc (Nat.le_refl _) _⟩
    have c1' : ((k : Int) == 0) = false := by simp; omega
    by_cases c2 : 9 < k
    · have HX := hide (show numR s.data.toList = none from numR_bad _ 1 HG.out (by rw [← HD.out, HK.out]; exact Or.inr (Or.inl c2)))
      go_wp2_with fail
      refine bodyPost_ret (v := numV none) (by simp [results, Tryz.results159, go_sem, numV]) rfl ⟨by rw [← HQ.out, HX.out], (Below.refl _ _).alloc (Nat.le_refl _) _⟩
    have hg0 : 0 < g.size := by omega
    have hz0 := head_zero g hg0
    have HZ := hide (show g.data.toList.head? = d.data.toList.head? from by rw [HT.out, List.head?_take, if_neg c1])
    by_cases c3 : 1 < k
    · cases hz : ((g[0].toNat : Int) == 48)
      · have H0 := hide (show ¬ (1 < k ∧ d.data.toList.head? = some 48) from by rw [← HZ.out]; rw [hz0] at hz; intro x; simp [x.2] at hz)
        clear hz0
        go_wp2_with fail
        go_loop [5, 34] (fun v i => ∃ j : Nat, j ≤ k ∧ i = .int .i64 j ∧ v = .int .i64 (numVal (g.data.toList.take j) 0) ∧ ∀ c ∈ g.data.toList.take j, inB digitsB c = true) (fun _ i => k - (intOf i).toNat)
        case atStart => exact ⟨0, Nat.zero_le _, rfl, by simp [numVal], by simp⟩
        case round =>
          obtain ⟨j, hj, rfl, rfl, hall⟩ := hrel
          have hb := numVal_bound (g.data.toList.take j) hall 9 (by have := List.length_take_le j g.data.toList; omega)
          have hb2 : numVal (g.data.toList.take j) 0 < 1000000000 := hb.2
          have hb1 := hb.1
          have HA := hide hall
          clear hall hb
          by_cases hlt : j < k
          · have hjg : j < g.size := by omega
            have HS := hide (get_snoc g j hjg)
            cases hdg : inB digitsB g[j]
            · have HX := hide (show numR s.data.toList = none from numR_bad _ 1 HG.out (by rw [← HD.out, HK.out]; exact Or.inr (Or.inr (Or.inr ⟨j, g[j], hlt, by rw [← get_at g j hjg, HT.out, List.getElem?_take_of_lt hlt], hdg⟩))))
              go_wp2_with (go_at_call 158; refine (isDigit_any _ _).mono ?_; rintro e w' ⟨rfl, rfl⟩)
              refine bodyPost_ret (v := numV none) (by simp [results, Tryz.results159, go_sem, numV]) rfl ⟨by rw [← HQ.out, HX.out], (Below.refl _ _).alloc (Nat.le_refl _) _⟩
            · have hd := (inB_digits _).1 hdg
              have hd1 := hd.1
              have hd2 := hd.2
              clear hd
              have HN := hide (show numVal (g.data.toList.take (j + 1)) 0 = numVal (g.data.toList.take j) 0 * 10 + ((g[j].toNat : Int) - 48) from by rw [HS.out, numVal_snoc]; omega)
              have HA2 := hide (show ∀ c ∈ g.data.toList.take (j + 1), inB digitsB c = true from by
                rw [HS.out]; intro c hc
                rcases List.mem_append.1 hc with x | x
                · exact HA.out c x
                · simp at x; rw [x]; exact hdg)
              generalize hv : numVal (g.data.toList.take j) 0 = v at *
              clear hv
              go_wp2_with (go_at_call 158; refine (isDigit_any _ _).mono ?_; rintro e w' ⟨rfl, rfl⟩)
              go_round
              case rel => exact ⟨j + 1, by omega, by go_num, by rw [HN.out], HA2.out⟩
              case measure => simp [intOf]; omega
          · have e : j = k := by omega
            subst e
            have HE := hide (show numR s.data.toList = some (-numVal (g.data.toList.take j) 0, 1 + j) from by
              rw [numR_good _ 1 HG.out (by rw [← HD.out, HK.out]; omega) (by rw [← HD.out, HK.out]; omega) (by rw [← HD.out, HK.out]; exact H0.out) (by rw [← HD.out, HK.out, ← HT.out]; intro c hc; exact HA.out c (by rw [List.take_of_length_le (by show g.size ≤ j; omega)]; exact hc)), ← HD.out, HK.out]
              rw [if_pos rfl]
              rw [HT.out, List.take_take, Nat.min_self])
            generalize hv : numVal (g.data.toList.take j) 0 = v at *
            clear hv
            go_wp2_with fail
            refine bodyPost_ret (v := numV (some (-v, 1 + j))) (by simp [results, Tryz.results159, go_sem, numV]; omega) rfl ⟨by rw [← HQ.out, HE.out], (Below.refl _ _).alloc (Nat.le_refl _) _⟩
      · have H0 := hide (show 1 < k ∧ d.data.toList.head? = some 48 from ⟨c3, by rw [← HZ.out]; rw [hz0] at hz; simpa using hz⟩)
        clear hz0
        have HX := hide (show numR s.data.toList = none from numR_bad _ 1 HG.out (by rw [← HD.out, HK.out]; exact Or.inr (Or.inr (Or.inl H0.out))))
        go_wp2_with fail
        refine bodyPost_ret (v := numV none) (by simp [results, Tryz.results159, go_sem, numV]) rfl ⟨by rw [← HQ.out, HX.out], (Below.refl _ _).alloc (Nat.le_refl _) _⟩
    · have H0 := hide (show ¬ (1 < k ∧ d.data.toList.head? = some 48) from fun x => c3 x.1)
      clear hz0
      go_wp2_with fail
      go_loop [5, 34] (fun v i => ∃ j : Nat, j ≤ k ∧ i = .int .i64 j ∧ v = .int .i64 (numVal (g.data.toList.take j) 0) ∧ ∀ c ∈ g.data.toList.take j, inB digitsB c = true) (fun _ i => k - (intOf i).toNat)
      case atStart => exact ⟨0, Nat.zero_le _, rfl, by simp [numVal], by simp⟩
      case round =>
        obtain ⟨j, hj, rfl, rfl, hall⟩ := hrel
        have hb := numVal_bound (g.data.toList.take j) hall 9 (by have := List.length_take_le j g.data.toList; omega)
        have hb2 : numVal (g.data.toList.take j) 0 < 1000000000 := hb.2
        have hb1 := hb.1
        have HA := hide hall
        clear hall hb
        by_cases hlt : j < k
        · have hjg : j < g.size := by omega
          have HS := hide (get_snoc g j hjg)
          cases hdg : inB digitsB g[j]
          · have HX := hide (show numR s.data.toList = none from numR_bad _ 1 HG.out (by rw [← HD.out, HK.out]; exact Or.inr (Or.inr (Or.inr ⟨j, g[j], hlt, by rw [← get_at g j hjg, HT.out, List.getElem?_take_of_lt hlt], hdg⟩))))
            go_wp2_with (go_at_call 158; refine (isDigit_any _ _).mono ?_; rintro e w' ⟨rfl, rfl⟩)
            refine bodyPost_ret (v := numV none) (by simp [results, Tryz.results159, go_sem, numV]) rfl ⟨by rw [← HQ.out, HX.out], (Below.refl _ _).alloc (Nat.le_refl _) _⟩
          · have hd := (inB_digits _).1 hdg
            have hd1 := hd.1
            have hd2 := hd.2
            clear hd
            have HN := hide (show numVal (g.data.toList.take (j + 1)) 0 = numVal (g.data.toList.take j) 0 * 10 + ((g[j].toNat : Int) - 48) from by rw [HS.out, numVal_snoc]; omega)
            have HA2 := hide (show ∀ c ∈ g.data.toList.take (j + 1), inB digitsB c = true from by
              rw [HS.out]; intro c hc
              rcases List.mem_append.1 hc with x | x
              · exact HA.out c x
              · simp at x; rw [x]; exact hdg)
            generalize hv : numVal (g.data.toList.take j) 0 = v at *
            clear hv
            go_wp2_with (go_at_call 158; refine (isDigit_any _ _).mono ?_; rintro e w' ⟨rfl, rfl⟩)
            go_round
            case rel => exact ⟨j + 1, by omega, by go_num, by rw [HN.out], HA2.out⟩
            case measure => simp [intOf]; omega
        · have e : j = k := by omega
          subst e
          have HE := hide (show numR s.data.toList = some (-numVal (g.data.toList.take j) 0, 1 + j) from by
            rw [numR_good _ 1 HG.out (by rw [← HD.out, HK.out]; omega) (by rw [← HD.out, HK.out]; omega) (by rw [← HD.out, HK.out]; exact H0.out) (by rw [← HD.out, HK.out, ← HT.out]; intro c hc; exact HA.out c (by rw [List.take_of_length_le (by show g.size ≤ j; omega)]; exact hc)), ← HD.out, HK.out]
            rw [if_pos rfl]
            rw [HT.out, List.take_take, Nat.min_self])
          generalize hv : numVal (g.data.toList.take j) 0 = v at *
          clear hv
          go_wp2_with fail
          refine bodyPost_ret (v := numV (some (-v, 1 + j))) (by simp [results, Tryz.results159, go_sem, numV]; omega) rfl ⟨by rw [← HQ.out, HE.out], (Below.refl _ _).alloc (Nat.le_refl _) _⟩
end Go.Proofs.YtpggfgjongkihaaGreat
namespace Go.Proofs.YtpggfgjongkihaaGreat
open Go.RowKit
def zeroTokP : Obj := .cells #[.int .i64 0, .string ⟨#[]⟩, .int .i64 0] 223
theorem escaped_none (s : ByteArray) (w : World) (h : escH s.data.toList = none) : Calls Tryz.prog 192 #[.string s] w fun e w' => e = .returned (.int .u8 0) ∧ w' = w := by
  have := escaped_any s w
  rw [h] at this
  exact this
theorem escaped_some (s : ByteArray) (c : UInt8) (w : World) (h : escH s.data.toList = some c) : Calls Tryz.prog 192 #[.string s] w fun e w' => e = .returned (.int .u8 c.toNat) ∧ w' = w := by
  have := escaped_any s w
  rw [h] at this
  exact this
theorem ext_drop (s : ByteArray) (k : Nat) : (s.extract k s.size).data.toList = s.data.toList.drop k := by
  rw [Lib.extract_data, List.take_of_length_le (by simp)]
theorem str_escN (s : ByteArray) (k : Nat) (acc : List UInt8) (m : Nat) (h : k < s.size) (hc : s[k] = 92) (he : escH (s.data.toList.drop (k + 1)) = none) : strR (s.data.toList.drop k) acc m = none := by
  by_cases hk : s.size ≤ k + 1
  · exact str_esc0 s k acc m h hc hk
  · rw [str_esc s k acc m (by omega) hc]
    rw [drop_cons s (k + 1) (by omega)] at he
    simp only [escH] at he
    rw [he]
theorem str_escS (s : ByteArray) (k : Nat) (acc : List UInt8) (m : Nat) (e : UInt8) (h : k < s.size) (hc : s[k] = 92) (he : escH (s.data.toList.drop (k + 1)) = some e) : k + 1 < s.size ∧ strR (s.data.toList.drop k) acc m = strR (s.data.toList.drop (k + 2)) (acc ++ [e]) (m + 2) := by
  by_cases hk : s.size ≤ k + 1
  · rw [List.drop_of_length_le (by simp; exact hk)] at he; cases he
  · refine ⟨by omega, ?_⟩
    rw [str_esc s k acc m (by omega) hc]
    rw [drop_cons s (k + 1) (by omega)] at he
    simp only [escH] at he
    rw [he]
theorem esc_pos (l : List UInt8) (e : UInt8) (he : escH l = some e) : ((e.toNat : Int) == 0) = false := by
  match l with
  | [] => cases he
  | d :: r =>
    simp only [escH, escR] at he
    split at he
    · cases he; rfl
    split at he
    · cases he; rfl
    split at he
    · cases he; rfl
    split at he
    · cases he; rfl
    · cases he

set_option maxHeartbeats 1000000 in
set_option maxRecDepth 100000 in
theorem quoted_any (s : ByteArray) (w : World) (h : 0 < s.size) (hs : s.size ≤ 100000) :
    Calls Tryz.prog 162 #[.string s] w fun e w' => e = .returned (strV (strR (s.data.toList.drop 1) [] 1)) ∧ Below w.heap.size w w' := by
  generalize hq : strV (strR (s.data.toList.drop 1) [] 1) = q
  have HQ := hide hq
  clear hq
  obtain ⟨i0, hi, hz0, hz1, hz2⟩ := info_parts Tryz.info5
  go_enter Tryz.func162, Tryz.ntmps162
  go_wp2_with fail
  go_loopw [4, 5] (fun v i wr => ∃ (k : Nat) (acc : List UInt8), 1 ≤ k ∧ k ≤ s.size ∧ i = .int .i64 k ∧ wr.ownsRow (w.heap.size + 1) 5 1 v acc.length (bcells acc) ∧ acc.length ≤ k ∧ Below (w.heap.size + 1) (w.alloc zeroTokP) wr ∧ strR (s.data.toList.drop 1) [] 1 = strR (s.data.toList.drop k) acc k) (fun _ i _ => s.size - (intOf i).toNat)
  case atStart => exact ⟨1, [], by omega, by omega, by go_num, World.ownsRow_nil _ _ _ _, by simp, Below.refl _ _, rfl⟩
  case round =>
    obtain ⟨k, acc, hk1, hk2, rfl, hown, hacc, hbel, hrr⟩ := hrel
    have HR := hide hrr
    clear hrr
    have hcell : ∀ j, wr.cell? ⟨w.heap.size, j, none⟩ = (w.alloc zeroTokP).cell? ⟨w.heap.size, j, none⟩ := fun j => hbel.cell (by simp)
    have hfroz : ∀ j, wr.frozen? ⟨w.heap.size, j, none⟩ = false := fun j => by rw [hbel.frozen (by simp)]; exact frozen_new w _ j
    have hc0 : wr.cell? ⟨w.heap.size, 0, none⟩ = some (.int .i64 0) := by rw [hcell]; simp [zeroTokP]
    have hc1 : wr.cell? ⟨w.heap.size, 1, none⟩ = some (.string ⟨#[]⟩) := by rw [hcell]; simp [zeroTokP]
    have hc2 : wr.cell? ⟨w.heap.size, 2, none⟩ = some (.int .i64 0) := by rw [hcell]; simp [zeroTokP]
    clear hcell
    have hlow : Below w.heap.size w wr := ((Below.refl _ _).alloc (Nat.le_refl _) _).trans (hbel.mono (by omega))
    have hfin : ∀ x y z, Below w.heap.size w (((wr.setCell ⟨w.heap.size, 0, none⟩ x).setCell ⟨w.heap.size, 1, none⟩ y).setCell ⟨w.heap.size, 2, none⟩ z) := fun x y z => ((hlow.setCell (Nat.le_refl _) x).setCell (Nat.le_refl _) y).setCell (Nat.le_refl _) z
    have hszr : w.heap.size + 1 ≤ wr.heap.size := by have := hbel.size; simp at this; omega
    by_cases hlt : k < s.size
    · have hx0 : 0 ≤ (s[k].toNat : Int) := by omega
      have hx1 : (s[k].toNat : Int) ≤ 255 := by have := s[k].toNat_lt; omega
      cases h34 : ((s[k].toNat : Int) == 34)
      · have n34 := hide (show ¬ s[k] = 34 from by intro e; rw [e] at h34; simp at h34)
        cases h92 : ((s[k].toNat : Int) == 92)
        · have n92 := hide (show ¬ s[k] = 92 from by intro e; rw [e] at h92; simp at h92)
          by_cases hlo : (s[k].toNat : Int) < 32
          · go_wp2_with fail
            refine bodyPost_ret (v := strV none) (by simp [results, Tryz.results162, go_sem, strV, hc0, hc1, hc2]) rfl ⟨by rw [← HQ.out, HR.out, str_bad s k _ _ hlt (Or.inl ((u8_lt _ _).2 hlo))], hfin _ _ _⟩
          by_cases hhi : 126 < (s[k].toNat : Int)
          · go_wp2_with fail
            refine bodyPost_ret (v := strV none) (by simp [results, Tryz.results162, go_sem, strV, hc0, hc1, hc2]) rfl ⟨by rw [← HQ.out, HR.out, str_bad s k _ _ hlt (Or.inr ((u8_lt _ _).2 hhi))], hfin _ _ _⟩
          have nbad := hide (show ¬ (s[k] < 32 ∨ 126 < s[k]) from by
            rintro (x | x)
            · exact hlo ((u8_lt _ _).1 x)
            · exact hhi ((u8_lt _ _).1 x))
          have hnz : ((s[k].toNat : Int) == 0) = false := by simp; omega
          have HP := hide (str_plain s k acc k hlt n34.out nbad.out n92.out)
          have HN := hide (HP.out)
          go_wp2_with (at_builtin; refine wpList_append_own _ rfl _ _ 81 rfl (w.heap.size + 1) 5 i0 (.int .u8 0) 1 1 Tryz.underlying81 hi hz0 hz1 hz2 rfl (by decide) _ _ _ rfl (hown.alloc _) ⟨wr.heap.size, 0, none⟩ 1 1 [.int .u8 ↑s[k].toNat] rfl rfl (cell_one_new _ _ _) (fun u hu => by simp at hu; subst hu; rfl) (by unfold maxLen; omega) (by omega) (by simp; omega) ?_; intro v' w1 hown' hgrow _)
          have hbel' : Below (w.heap.size + 1) (w.alloc zeroTokP) w1 := Below.grown (hbel.alloc (by omega) _) hgrow (by simp; omega) (fun k hk => (hown.lt k hk).1)
          go_roundw
          case rel => exact ⟨k + 1, acc ++ [_], by omega, by omega, by go_num, by simpa [bcells] using hown', by simp; omega, hbel', by rw [HR.out, HN.out]⟩
          case measure => simp [intOf]; omega
        · have e92 := hide (show s[k] = 92 from u8_of_int (by simpa using h92))
          cases hes : escH (s.data.toList.drop (k + 1)) with
          | none =>
            have HP := hide (str_escN s k acc k hlt e92.out hes)
            have HS := hide (show escH (s.extract (k + 1) s.size).data.toList = none from by rw [ext_drop]; exact hes)
            clear hes
            go_wp2_with fail
            refine (escaped_none _ _ HS.out).mono ?_
            rintro e w' ⟨rfl, rfl⟩
            go_wp2_with fail
            refine bodyPost_ret (v := strV none) (by simp [results, Tryz.results162, go_sem, strV, hc0, hc1, hc2]) rfl ⟨by rw [← HQ.out, HR.out, HP.out], hfin _ _ _⟩
          | some x =>
            obtain ⟨hk4, hp⟩ := str_escS s k acc k x hlt e92.out hes
            have HP := hide hp
            have hnz := esc_pos _ x hes
            have hxb : (x.toNat : Int) ≤ 255 := by have := x.toNat_lt; omega
            have HS := hide (show escH (s.extract (k + 1) s.size).data.toList = some x from by rw [ext_drop]; exact hes)
            clear hes hp
            go_wp2_with fail
            refine (escaped_some _ x _ HS.out).mono ?_
            rintro e w' ⟨rfl, rfl⟩
            have HN := hide (HP.out)
            go_wp2_with (at_builtin; refine wpList_append_own _ rfl _ _ 81 rfl (w.heap.size + 1) 5 i0 (.int .u8 0) 1 1 Tryz.underlying81 hi hz0 hz1 hz2 rfl (by decide) _ _ _ rfl (hown.alloc _) ⟨w'.heap.size, 0, none⟩ 1 1 [.int .u8 ↑x.toNat] rfl rfl (cell_one_new _ _ _) (fun u hu => by simp at hu; subst hu; rfl) (by unfold maxLen; omega) (by omega) (by simp; omega) ?_; intro v' w1 hown' hgrow _)
            have hbel' : Below (w.heap.size + 1) (w.alloc zeroTokP) w1 := Below.grown (hbel.alloc (by omega) _) hgrow (by simp; omega) (fun k hk => (hown.lt k hk).1)
            go_roundw
            case rel => exact ⟨k + 2, acc ++ [x], by omega, by omega, by go_num, by simpa [bcells] using hown', by simp; omega, hbel', by rw [HR.out, HN.out]⟩
            case measure => simp [intOf]; omega
      · have HE := hide (str_quote s k acc k hlt (u8_of_int (by simpa using h34)))
        have hconv := bytes_back wr _ _ acc hown
        go_wp2_with fail
        refine bodyPost_ret (v := strV (some (acc, k + 1))) (by simp [results, Tryz.results162, go_sem, strV, hc0, hc1, hc2]) rfl ⟨by rw [← HQ.out, HR.out, HE.out], hfin _ _ _⟩
    · go_wp2_with fail
      refine bodyPost_ret (v := strV none) (by simp [results, Tryz.results162, go_sem, strV, hc0, hc1, hc2]) rfl ⟨by rw [← HQ.out, HR.out, str_end s k _ _ (by omega)], hfin _ _ _⟩
end Go.Proofs.YtpggfgjongkihaaGreat
