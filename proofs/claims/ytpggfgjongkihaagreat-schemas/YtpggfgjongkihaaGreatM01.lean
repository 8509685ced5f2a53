/- Small facts for the walks. The reference's cutting: among, run. The reference's cutting: numbered. The reference's cutting: stringed. Tokens: the plain function that both cuttings are held against. The program's cutting: isDigit, isWord, wordSize, escaped. -/
import Derived.Test.YtpggfgjongkihaaGreatProg
import Derived.WalkKit
import Derived.WalkSpells
import Derived.WalkLawsBesides
namespace Go.Proofs.YtpggfgjongkihaaGreat
open Go.RowKit
theorem hide {p : Prop} (h : p) : Hid p := h
theorem take_snoc (s : ByteArray) (k : Nat) (h : k < s.size) : s.data.toList.take (k + 1) = s.data.toList.take k ++ [s[k]] := by
  rw [List.take_succ_eq_append_getElem (by simpa using h)]; rfl
theorem byte_beq (a b : UInt8) : ((a.toNat : Int) == (b.toNat : Int)) = (a == b) := by
  rw [Bool.eq_iff_iff, beq_iff_eq, beq_iff_eq]
  constructor
  · intro h; exact UInt8.toNat_inj.1 (by omega)
  · intro h; rw [h]
theorem ret_bool {a b : Bool} (h : a = b) : Ending.returned (.bool a) = .returned (.bool b) := by rw [h]
theorem ret_int {k : IntKind} {a b : Int} (h : a = b) : Ending.returned (.int k a) = .returned (.int k b) := by rw [h]
theorem drop_cons (s : ByteArray) (k : Nat) (h : k < s.size) : s.data.toList.drop k = s[k] :: s.data.toList.drop (k + 1) := by
  rw [List.drop_eq_getElem_cons (by simpa using h)]; rfl
end Go.Proofs.YtpggfgjongkihaaGreat
namespace Go.Proofs.YtpggfgjongkihaaGreat
open Go.RowKit
def inB (s : ByteArray) (c : UInt8) : Bool := s.data.toList.contains c
set_option maxHeartbeats 400000 in
theorem among_any (c : UInt8) (s : ByteArray) (w : World) (hs : s.size ≤ 100000) :
    Calls Tryz.prog 62 #[.int .u8 c.toNat, .string s] w fun e w' => e = .returned (.bool (inB s c)) ∧ w' = w := by
  generalize hq : inB s c = q
  have HQ : Hid (s.data.toList.contains c = q) := hq
  clear hq
  go_enter Tryz.func62, Tryz.ntmps62
  go_wp2
  go_loop [5] (fun i => ∃ k : Nat, k ≤ s.size ∧ i = .int .i64 k ∧ (s.data.toList.take k).contains c = false) (fun i => s.size - (intOf i).toNat)
  case atStart => exact ⟨0, Nat.zero_le _, rfl, by simp⟩
  case round =>
    obtain ⟨k, hk, rfl, hc⟩ := hrel
    have HC : Hid ((s.data.toList.take k).contains c = false) := hc
    clear hc
    by_cases hlt : k < s.size
    · have hts := take_snoc s k hlt
      have HT : Hid (s.data.toList.take (k+1) = s.data.toList.take k ++ [s[k]]) := hts
      clear hts
      go_wp2
      · go_ret
        have h : (↑s[k].toNat == (↑c.toNat : Int)) = true := by assumption
        rw [byte_beq] at h
        refine ⟨ret_bool ?_, rfl⟩
        rw [← HQ.out]; symm
        rw [List.contains_iff_mem]
        have := List.mem_of_mem_take (i := k+1) (l := s.data.toList) (a := c) (by rw [HT.out]; simp at h; simp [h])
        exact this
      · go_round
        case rel =>
          have h : (↑s[k].toNat == (↑c.toNat : Int)) = false := by assumption
          rw [byte_beq] at h
          exact ⟨k+1, hlt, by go_num, by rw [HT.out, List.contains_append, HC.out]; simp at h ⊢; exact fun x => h x.symm⟩
        case measure => simp [intOf]; omega
    · go_wp2
      go_ret
      refine ⟨ret_bool ?_, rfl⟩
      rw [← HQ.out, ← HC.out, List.take_of_length_le (by simp; omega)]

theorem takeWhile_len {α : Type} (p : α → Bool) : ∀ (l : List α) (k : Nat), (∀ x ∈ l.take k, p x = true) → k ≤ l.length → (∀ x, l[k]? = some x → p x = false) → (l.takeWhile p).length = k
  | [], k, _, h2, _ => by simp at h2; simp [h2]
  | x :: l, 0, _, _, h3 => by have := h3 x (by simp); simp [this]
  | x :: l, k + 1, h1, h2, h3 => by
    have hx : p x = true := h1 x (by simp)
    rw [List.takeWhile_cons_of_pos hx, List.length_cons, takeWhile_len p l k (fun y hy => h1 y (by simp [hy])) (by simpa using h2) (fun y hy => h3 y (by simpa using hy))]

theorem getElem?_drop_ba (s : ByteArray) (a k : Nat) (h : a + k < s.size) : (s.data.toList.drop a)[k]? = some s[a + k] := by
  rw [List.getElem?_drop, List.getElem?_eq_getElem (by simpa using h)]; rfl

def runLen (s : List UInt8) (o : ByteArray) : Nat := (s.takeWhile (inB o)).length
theorem runLen_stop (s o : ByteArray) (n k : Nat) (h : n + k ≤ s.size) (h1 : ∀ x ∈ (s.data.toList.drop n).take k, inB o x = true) (h2 : ∀ hl : n + k < s.size, inB o s[n + k] = false) : runLen (s.data.toList.drop n) o = k := by
  refine takeWhile_len _ _ _ h1 (by simp; omega) ?_
  intro x hx
  by_cases hl : n + k < s.size
  · rw [getElem?_drop_ba s n k hl] at hx; cases hx; exact h2 hl
  · rw [List.getElem?_eq_none (by simp; omega)] at hx; cases hx
theorem runLen_step (s o : ByteArray) (n k : Nat) (hl : n + k < s.size) (h1 : ∀ x ∈ (s.data.toList.drop n).take k, inB o x = true) (h2 : inB o s[n + k] = true) : ∀ x ∈ (s.data.toList.drop n).take (k + 1), inB o x = true := by
  rw [List.take_add_one, getElem?_drop_ba s n k hl]
  intro x hx
  rcases List.mem_append.1 hx with hx | hx
  · exact h1 x hx
  · simp at hx; rw [hx]; exact h2

set_option maxHeartbeats 400000 in
theorem run_any (s o : ByteArray) (a : Int) (w : World) (h0 : 0 ≤ a) (h1 : a ≤ s.size) (hs : s.size ≤ 100000) (ho : o.size ≤ 100000) :
    Calls Tryz.prog 63 #[.string s, .int .i64 a, .string o] w fun e w' => e = .returned (.int .i64 (runLen (s.data.toList.drop a.toNat) o : Nat)) ∧ w' = w := by
  obtain ⟨n, rfl⟩ := Int.eq_ofNat_of_zero_le h0
  rw [Int.toNat_natCast]
  generalize hq : runLen (s.data.toList.drop n) o = q
  have HQ : Hid (runLen (s.data.toList.drop n) o = q) := hq
  clear hq
  go_enter Tryz.func63, Tryz.ntmps63
  go_wp2_with fail
  go_loop [7] (fun i => ∃ k : Nat, n + k ≤ s.size ∧ i = .int .i64 k ∧ ∀ x ∈ (s.data.toList.drop n).take k, inB o x = true) (fun i => s.size - (intOf i).toNat)
  case atStart => exact ⟨0, by omega, rfl, by simp⟩
  case round =>
    obtain ⟨k, hk, rfl, hc⟩ := hrel
    have HC : Hid (∀ x ∈ (s.data.toList.drop n).take k, inB o x = true) := hc
    clear hc
    by_cases hlt : n + k < s.size
    · cases hp : inB o s[n + k]
      · go_wp2_with (go_at_call 62; refine (among_any _ _ _ ho).mono ?_; rintro e w' ⟨rfl, rfl⟩)
        go_ret
        exact ⟨ret_int (by rw [← HQ.out, runLen_stop s o n k hk HC.out (fun _ => hp)]), rfl⟩
      · go_wp2_with (go_at_call 62; refine (among_any _ _ _ ho).mono ?_; rintro e w' ⟨rfl, rfl⟩)
        go_round
        case rel => exact ⟨k + 1, by omega, by go_num, runLen_step s o n k hlt HC.out hp⟩
        case measure => simp [intOf]; omega
    · go_wp2_with fail
      go_ret
      exact ⟨ret_int (by rw [← HQ.out, runLen_stop s o n k hk HC.out (fun h => absurd h hlt)]), rfl⟩
theorem run_at (s o : ByteArray) (n : Nat) (a : Int) (w : World) (ha : a = n) (h1 : n ≤ s.size) (hs : s.size ≤ 100000) (ho : o.size ≤ 100000) :
    Calls Tryz.prog 63 #[.string s, .int .i64 a, .string o] w fun e w' => e = .returned (.int .i64 (runLen (s.data.toList.drop n) o : Nat)) ∧ w' = w := by
  subst ha
  exact run_any s o n w (by omega) (by omega) hs ho
end Go.Proofs.YtpggfgjongkihaaGreat
namespace Go.Proofs.YtpggfgjongkihaaGreat
open Go.RowKit
def digitsB : ByteArray := ⟨#[48, 49, 50, 51, 52, 53, 54, 55, 56, 57]⟩
def lettersB : ByteArray := ⟨#[97, 98, 99, 100, 101, 102, 103, 104, 105, 106, 107, 108, 109, 110, 111, 112, 113, 114, 115, 116, 117, 118, 119, 120, 121, 122, 65, 66, 67, 68, 69, 70, 71, 72, 73, 74, 75, 76, 77, 78, 79, 80, 81, 82, 83, 84, 85, 86, 87, 88, 89, 90, 95]⟩
def numVal : List UInt8 → Int → Int
  | [], n => n
  | c :: l, n => numVal l (10 * n + ((c.toNat : Int) - 48))
/-- the number at the head of a text that is not empty: what it tells, and its size -/
def numR (l : List UInt8) : Option (Int × Nat) :=
  let sg : Nat := if l.head? = some 45 then 1 else 0
  let k := runLen (l.drop sg) digitsB
  let more := runLen (l.drop (sg + k)) lettersB
  if k < 1 ∨ 9 < k ∨ 0 < more ∨ (1 < k ∧ (l.drop sg).head? = some 48) then none
  else some (if sg = 1 then - numVal ((l.drop sg).take k) 0 else numVal ((l.drop sg).take k) 0, sg + k)
def numV : Option (Int × Nat) → Value
  | none => .tuple #[.agg #[.int .i64 0, .string ⟨#[]⟩, .int .i64 0], .int .i64 0]
  | some (n, k) => .tuple #[.agg #[.int .i64 2, .string ⟨#[]⟩, .int .i64 n], .int .i64 k]

theorem numVal_snoc (l : List UInt8) (c : UInt8) (n : Int) : numVal (l ++ [c]) n = 10 * numVal l n + ((c.toNat : Int) - 48) := by
  induction l generalizing n with
  | nil => rfl
  | cons a l ih => simp [numVal, ih]
theorem inB_digits (c : UInt8) : inB digitsB c = true ↔ 48 ≤ (c.toNat : Int) ∧ (c.toNat : Int) ≤ 57 := by
  have h : ∀ i : Fin 256, inB digitsB (UInt8.ofFin i) = decide (48 ≤ i.val ∧ i.val ≤ 57) := by decide +kernel
  have := h c.toFin
  rw [show UInt8.ofFin c.toFin = c from rfl] at this
  rw [this]; simp; constructor <;> intro h <;> constructor <;> have := h.1 <;> have := h.2 <;> omega
theorem numVal_bound (l : List UInt8) (h : ∀ c ∈ l, inB digitsB c = true) (j : Nat) (hj : l.length ≤ j) : 0 ≤ numVal l 0 ∧ numVal l 0 < 10 ^ j := by
  have key : ∀ (l : List UInt8) (n : Int), (∀ c ∈ l, inB digitsB c = true) → 0 ≤ n → 0 ≤ numVal l n ∧ numVal l n < (n + 1) * 10 ^ l.length := by
    intro l
    induction l with
    | nil => intro n _ h0; simp [numVal]; omega
    | cons c l ih =>
      intro n hd h0
      have hc := (inB_digits c).1 (hd c (by simp))
      have := ih (10 * n + ((c.toNat : Int) - 48)) (fun x hx => hd x (by simp [hx])) (by omega)
      refine ⟨this.1, Int.lt_of_lt_of_le this.2 ?_⟩
      rw [List.length_cons, Int.pow_succ, Int.mul_comm (10 ^ l.length) 10, ← Int.mul_assoc]
      exact Int.mul_le_mul_of_nonneg_right (by omega) (Int.pow_nonneg (by omega))
  have := key l 0 h (by omega)
  refine ⟨this.1, ?_⟩
  have h2 : (10 : Int) ^ l.length ≤ 10 ^ j := by exact_mod_cast Nat.pow_le_pow_right (by omega) hj
  omega
theorem runLen_take (s : List UInt8) (o : ByteArray) : ∀ x ∈ s.take (runLen s o), inB o x = true := by
  unfold runLen
  intro x hx
  have h := (List.takeWhile_prefix (p := inB o) (l := s))
  obtain ⟨t, ht⟩ := h
  rw [← ht, List.take_left' (by rw [ht])] at hx
  exact List.all_eq_true.1 (List.all_takeWhile (p := inB o) (l := s)) x hx
theorem runLen_le (s : List UInt8) (o : ByteArray) : runLen s o ≤ s.length := (List.takeWhile_prefix (p := inB o) (l := s)).length_le


theorem numR_of (s : ByteArray) (n sg k m : Nat) (h : n < s.size) (hsg : sg = if s[n] = 45 then 1 else 0) (hk : runLen (s.data.toList.drop (n + sg)) digitsB = k) (hm : runLen (s.data.toList.drop (n + sg + k)) lettersB = m) :
    numR (s.data.toList.drop n) = if k < 1 ∨ 9 < k ∨ 0 < m ∨ (1 < k ∧ (s.data.toList.drop (n + sg)).head? = some 48) then none else some (if sg = 1 then - numVal ((s.data.toList.drop (n + sg)).take k) 0 else numVal ((s.data.toList.drop (n + sg)).take k) 0, sg + k) := by
  have e : (if (s.data.toList.drop n).head? = some 45 then 1 else 0) = sg := by
    rw [hsg, drop_cons s n h]; simp
  unfold numR
  simp only [e, List.drop_drop, ← Nat.add_assoc, hk, hm]
theorem byte_eq45 (c : UInt8) : ((c.toNat : Int) == 45) = decide (c = 45) := by
  have := byte_beq c 45
  rw [show ((45 : UInt8).toNat : Int) = 45 from rfl] at this
  rw [this]; rfl
theorem byte_eq48 (c : UInt8) : ((c.toNat : Int) == 48) = decide (c = 48) := by
  have := byte_beq c 48
  rw [show ((48 : UInt8).toNat : Int) = 48 from rfl] at this
  rw [this]; rfl
theorem take_dg (s : ByteArray) (n j k : Nat) (h : n + j < s.size) (hj : j < k) (hT : ∀ x ∈ (s.data.toList.drop n).take k, inB digitsB x = true) : 48 ≤ (s[n + j].toNat : Int) ∧ (s[n + j].toNat : Int) ≤ 57 ∧ numVal ((s.data.toList.drop n).take (j + 1)) 0 = 10 * numVal ((s.data.toList.drop n).take j) 0 + ((s[n + j].toNat : Int) - 48) := by
  have e : (s.data.toList.drop n).take (j + 1) = (s.data.toList.drop n).take j ++ [s[n + j]] := by
    rw [List.take_add_one, getElem?_drop_ba s n j h]; rfl
  have m : s[n + j] ∈ (s.data.toList.drop n).take k := by
    have : s[n + j] ∈ (s.data.toList.drop n).take (j + 1) := by rw [e]; simp
    exact List.take_subset_take_left _ (by omega) this
  have := (inB_digits _).1 (hT _ m)
  exact ⟨this.1, this.2, by rw [e, numVal_snoc]⟩
theorem take_bd (s : ByteArray) (n j k : Nat) (hj : j ≤ k) (h9 : k ≤ 9) (hT : ∀ x ∈ (s.data.toList.drop n).take k, inB digitsB x = true) : 0 ≤ numVal ((s.data.toList.drop n).take j) 0 ∧ numVal ((s.data.toList.drop n).take j) 0 < 1000000000 := by
  have := numVal_bound ((s.data.toList.drop n).take j) (fun c hc => hT c (List.take_subset_take_left _ hj hc)) 9 (by have := List.length_take_le j (s.data.toList.drop n); omega)
  exact this

set_option maxHeartbeats 1000000 in
theorem numbered_any (s : ByteArray) (n : Nat) (w : World) (h : n < s.size) (hs : s.size ≤ 100000) :
    Calls Tryz.prog 64 #[.string s, .int .i64 n] w fun e w' => e = .returned (numV (numR (s.data.toList.drop n))) ∧ Below w.heap.size w w' := by
  generalize hq : numV (numR (s.data.toList.drop n)) = q
  have HQ : Hid (numV (numR (s.data.toList.drop n)) = q) := hq
  clear hq
  cases hsg : ((s[n].toNat : Int) == 45)
  · go_enter Tryz.func64, Tryz.ntmps64

    go_wp2_with fail
    refine (run_at s digitsB n _ _ ?_ ?_ hs (by decide)).mono ?_
    · omega
    · omega
    rintro e w' ⟨rfl, rfl⟩
    have hkl := runLen_le (s.data.toList.drop n) digitsB
    have hkt := runLen_take (s.data.toList.drop n) digitsB
    rw [List.length_drop, Array.length_toList, show s.data.size = s.size from rfl] at hkl
    generalize hk : runLen (s.data.toList.drop n) digitsB = k at *
    have HK : Hid (runLen (s.data.toList.drop n) digitsB = k) := hk
    have HT : Hid (∀ x ∈ (s.data.toList.drop n).take k, inB digitsB x = true) := hkt
    clear hk hkt
    go_wp2_with fail
    refine (run_at s lettersB (n + k) _ _ ?_ ?_ hs (by decide)).mono ?_
    · omega
    · omega
    rintro e w' ⟨rfl, rfl⟩
    generalize hm : runLen (s.data.toList.drop (n + k)) lettersB = m
    have HM : Hid (runLen (s.data.toList.drop (n + k)) lettersB = m) := hm
    clear hm
    have hr := numR_of s n 0 k m h (by simpa [byte_eq45] using hsg) HK.out HM.out
    simp only [Nat.add_zero] at hr
    have HR := hide hr
    clear hr
    by_cases c1 : k < 1
    · go_wp2_with fail
      refine bodyPost_ret (v := numV none) (by simp [results, Tryz.results64, go_sem, numV]) rfl ⟨?_, (Below.refl _ _).alloc (Nat.le_refl _) _⟩
      rw [← HQ.out, HR.out, if_pos (Or.inl c1)]
    by_cases c2 : 9 < k
    · go_wp2_with fail
      refine bodyPost_ret (v := numV none) (by simp [results, Tryz.results64, go_sem, numV]) rfl ⟨?_, (Below.refl _ _).alloc (Nat.le_refl _) _⟩
      rw [← HQ.out, HR.out, if_pos (Or.inr (Or.inl c2))]
    by_cases c3 : 0 < m
    · go_wp2_with fail
      refine bodyPost_ret (v := numV none) (by simp [results, Tryz.results64, go_sem, numV]) rfl ⟨?_, (Below.refl _ _).alloc (Nat.le_refl _) _⟩
      rw [← HQ.out, HR.out, if_pos (Or.inr (Or.inr (Or.inl c3)))]
    by_cases c4 : 1 < k
    · cases hz : ((s[n].toNat : Int) == 48)
      · have hbad : ¬ (k < 1 ∨ 9 < k ∨ 0 < m ∨ (1 < k ∧ (s.data.toList.drop n).head? = some 48)) := by
          rintro (x | x | x | ⟨_, x⟩)
          · exact c1 x
          · exact c2 x
          · exact c3 x
          · rw [drop_cons s n (by omega)] at x; simp [byte_eq48] at hz x; exact hz x
        go_wp2_with fail
        go_loop [9, 10] (fun v i => ∃ j : Nat, j ≤ k ∧ i = .int .i64 j ∧ v = .int .i64 (numVal ((s.data.toList.drop n).take j) 0)) (fun _ i => k - (intOf i).toNat)
        case atStart => exact ⟨0, Nat.zero_le _, rfl, rfl⟩
        case round =>
          obtain ⟨j, hj, rfl, rfl⟩ := hrel
          have hb := take_bd s n j k hj (by omega) HT.out
          by_cases hlt : j < k
          · have hd := take_dg s n j k (by omega) hlt HT.out
            obtain ⟨hd1, hd2, hd3⟩ := hd
            have HD : Hid (numVal ((s.data.toList.drop n).take (j + 1)) 0 = 10 * numVal ((s.data.toList.drop n).take j) 0 + ((s[n + j].toNat : Int) - 48)) := hd3
            clear hd3
            generalize hv : numVal ((s.data.toList.drop n).take j) 0 = v at *
            clear hv
            go_wp2_with fail
            go_round
            case rel => exact ⟨j + 1, by omega, by go_num, by rw [HD.out]⟩
            case measure => simp [intOf]; omega
          · have e : j = k := by omega
            subst e
            have HE : Hid (numV (numR (s.data.toList.drop n)) = numV (some (numVal ((s.data.toList.drop n).take j) 0, 0 + j))) := by
              show _ = _
              rw [HR.out, if_neg hbad]; rw [if_neg (by decide)]
            generalize hv : numVal ((s.data.toList.drop n).take j) 0 = v at *
            clear hv
            go_wp2_with fail
            refine bodyPost_ret (v := numV (some (v, 0 + j))) (by simp [results, Tryz.results64, go_sem, numV]) rfl ⟨by rw [← HQ.out, HE.out], ((Below.refl _ _).alloc (Nat.le_refl _) _)⟩
      · go_wp2_with fail
        refine bodyPost_ret (v := numV none) (by simp [results, Tryz.results64, go_sem, numV]) rfl ⟨?_, (Below.refl _ _).alloc (Nat.le_refl _) _⟩
        rw [← HQ.out, HR.out, if_pos (Or.inr (Or.inr (Or.inr ⟨c4, by rw [drop_cons s n (by omega)]; simpa [byte_eq48] using hz⟩)))]
    · have hbad : ¬ (k < 1 ∨ 9 < k ∨ 0 < m ∨ (1 < k ∧ (s.data.toList.drop n).head? = some 48)) := by
        rintro (x | x | x | ⟨x, _⟩)
        · exact c1 x
        · exact c2 x
        · exact c3 x
        · exact c4 x
      go_wp2_with fail
      go_loop [9, 10] (fun v i => ∃ j : Nat, j ≤ k ∧ i = .int .i64 j ∧ v = .int .i64 (numVal ((s.data.toList.drop n).take j) 0)) (fun _ i => k - (intOf i).toNat)
      case atStart => exact ⟨0, Nat.zero_le _, rfl, rfl⟩
      case round =>
        obtain ⟨j, hj, rfl, rfl⟩ := hrel
        have hb := take_bd s n j k hj (by omega) HT.out
        by_cases hlt : j < k
        · have hd := take_dg s n j k (by omega) hlt HT.out
          obtain ⟨hd1, hd2, hd3⟩ := hd
          have HD : Hid (numVal ((s.data.toList.drop n).take (j + 1)) 0 = 10 * numVal ((s.data.toList.drop n).take j) 0 + ((s[n + j].toNat : Int) - 48)) := hd3
          clear hd3
          generalize hv : numVal ((s.data.toList.drop n).take j) 0 = v at *
          clear hv
          go_wp2_with fail
          go_round
          case rel => exact ⟨j + 1, by omega, by go_num, by rw [HD.out]⟩
          case measure => simp [intOf]; omega
        · have e : j = k := by omega
          subst e
          have HE : Hid (numV (numR (s.data.toList.drop n)) = numV (some (numVal ((s.data.toList.drop n).take j) 0, 0 + j))) := by
            show _ = _
            rw [HR.out, if_neg hbad]; rw [if_neg (by decide)]
          generalize hv : numVal ((s.data.toList.drop n).take j) 0 = v at *
          clear hv
          go_wp2_with fail
          refine bodyPost_ret (v := numV (some (v, 0 + j))) (by simp [results, Tryz.results64, go_sem, numV]) rfl ⟨by rw [← HQ.out, HE.out], ((Below.refl _ _).alloc (Nat.le_refl _) _)⟩
  · have h1 : n + 1 ≤ s.size := h
    go_enter Tryz.func64, Tryz.ntmps64

    go_wp2_with fail
    refine (run_at s digitsB (n + 1) _ _ ?_ ?_ hs (by decide)).mono ?_
    · omega
    · omega
    rintro e w' ⟨rfl, rfl⟩
    have hkl := runLen_le (s.data.toList.drop (n + 1)) digitsB
    have hkt := runLen_take (s.data.toList.drop (n + 1)) digitsB
    rw [List.length_drop, Array.length_toList, show s.data.size = s.size from rfl] at hkl
    generalize hk : runLen (s.data.toList.drop (n + 1)) digitsB = k at *
    have HK : Hid (runLen (s.data.toList.drop (n + 1)) digitsB = k) := hk
    have HT : Hid (∀ x ∈ (s.data.toList.drop (n + 1)).take k, inB digitsB x = true) := hkt
    clear hk hkt
    go_wp2_with fail
    refine (run_at s lettersB ((n + 1) + k) _ _ ?_ ?_ hs (by decide)).mono ?_
    · omega
    · omega
    rintro e w' ⟨rfl, rfl⟩
    generalize hm : runLen (s.data.toList.drop ((n + 1) + k)) lettersB = m
    have HM : Hid (runLen (s.data.toList.drop ((n + 1) + k)) lettersB = m) := hm
    clear hm
    have HR := hide (numR_of s n 1 k m h (by simpa [byte_eq45] using hsg) HK.out HM.out)
    by_cases c1 : k < 1
    · go_wp2_with fail
      refine bodyPost_ret (v := numV none) (by simp [results, Tryz.results64, go_sem, numV]) rfl ⟨?_, (Below.refl _ _).alloc (Nat.le_refl _) _⟩
      rw [← HQ.out, HR.out, if_pos (Or.inl c1)]
    by_cases c2 : 9 < k
    · go_wp2_with fail
      refine bodyPost_ret (v := numV none) (by simp [results, Tryz.results64, go_sem, numV]) rfl ⟨?_, (Below.refl _ _).alloc (Nat.le_refl _) _⟩
      rw [← HQ.out, HR.out, if_pos (Or.inr (Or.inl c2))]
    by_cases c3 : 0 < m
    · go_wp2_with fail
      refine bodyPost_ret (v := numV none) (by simp [results, Tryz.results64, go_sem, numV]) rfl ⟨?_, (Below.refl _ _).alloc (Nat.le_refl _) _⟩
      rw [← HQ.out, HR.out, if_pos (Or.inr (Or.inr (Or.inl c3)))]
    by_cases c4 : 1 < k
    · cases hz : ((s[(n + 1)].toNat : Int) == 48)
      · have hbad : ¬ (k < 1 ∨ 9 < k ∨ 0 < m ∨ (1 < k ∧ (s.data.toList.drop (n + 1)).head? = some 48)) := by
          rintro (x | x | x | ⟨_, x⟩)
          · exact c1 x
          · exact c2 x
          · exact c3 x
          · rw [drop_cons s (n + 1) (by omega)] at x; simp [byte_eq48] at hz x; exact hz x
        go_wp2_with fail
        go_loop [9, 10] (fun v i => ∃ j : Nat, j ≤ k ∧ i = .int .i64 j ∧ v = .int .i64 (numVal ((s.data.toList.drop (n + 1)).take j) 0)) (fun _ i => k - (intOf i).toNat)
        case atStart => exact ⟨0, Nat.zero_le _, rfl, rfl⟩
        case round =>
          obtain ⟨j, hj, rfl, rfl⟩ := hrel
          have hb := take_bd s (n + 1) j k hj (by omega) HT.out
          by_cases hlt : j < k
          · have hd := take_dg s (n + 1) j k (by omega) hlt HT.out
            obtain ⟨hd1, hd2, hd3⟩ := hd
            have HD : Hid (numVal ((s.data.toList.drop (n + 1)).take (j + 1)) 0 = 10 * numVal ((s.data.toList.drop (n + 1)).take j) 0 + ((s[(n + 1) + j].toNat : Int) - 48)) := hd3
            clear hd3
            generalize hv : numVal ((s.data.toList.drop (n + 1)).take j) 0 = v at *
            clear hv
            go_wp2_with fail
            go_round
            case rel => exact ⟨j + 1, by omega, by go_num, by rw [HD.out]⟩
            case measure => simp [intOf]; omega
          · have e : j = k := by omega
            subst e
            have HE : Hid (numV (numR (s.data.toList.drop n)) = numV (some (-numVal ((s.data.toList.drop (n + 1)).take j) 0, 1 + j))) := by
              show _ = _
              rw [HR.out, if_neg hbad]; rw [if_pos trivial]
            generalize hv : numVal ((s.data.toList.drop (n + 1)).take j) 0 = v at *
            clear hv
            go_wp2_with fail
            refine bodyPost_ret (v := numV (some (-v, 1 + j))) (by simp [results, Tryz.results64, go_sem, numV]) rfl ⟨by rw [← HQ.out, HE.out], ((Below.refl _ _).alloc (Nat.le_refl _) _)⟩
      · go_wp2_with fail
        refine bodyPost_ret (v := numV none) (by simp [results, Tryz.results64, go_sem, numV]) rfl ⟨?_, (Below.refl _ _).alloc (Nat.le_refl _) _⟩
        rw [← HQ.out, HR.out, if_pos (Or.inr (Or.inr (Or.inr ⟨c4, by rw [drop_cons s (n + 1) (by omega)]; simpa [byte_eq48] using hz⟩)))]
    · have hbad : ¬ (k < 1 ∨ 9 < k ∨ 0 < m ∨ (1 < k ∧ (s.data.toList.drop (n + 1)).head? = some 48)) := by
        rintro (x | x | x | ⟨x, _⟩)
        · exact c1 x
        · exact c2 x
        · exact c3 x
        · exact c4 x
      go_wp2_with fail
      go_loop [9, 10] (fun v i => ∃ j : Nat, j ≤ k ∧ i = .int .i64 j ∧ v = .int .i64 (numVal ((s.data.toList.drop (n + 1)).take j) 0)) (fun _ i => k - (intOf i).toNat)
      case atStart => exact ⟨0, Nat.zero_le _, rfl, rfl⟩
      case round =>
        obtain ⟨j, hj, rfl, rfl⟩ := hrel
        have hb := take_bd s (n + 1) j k hj (by omega) HT.out
        by_cases hlt : j < k
        · have hd := take_dg s (n + 1) j k (by omega) hlt HT.out
          obtain ⟨hd1, hd2, hd3⟩ := hd
          have HD : Hid (numVal ((s.data.toList.drop (n + 1)).take (j + 1)) 0 = 10 * numVal ((s.data.toList.drop (n + 1)).take j) 0 + ((s[(n + 1) + j].toNat : Int) - 48)) := hd3
          clear hd3
          generalize hv : numVal ((s.data.toList.drop (n + 1)).take j) 0 = v at *
          clear hv
          go_wp2_with fail
          go_round
          case rel => exact ⟨j + 1, by omega, by go_num, by rw [HD.out]⟩
          case measure => simp [intOf]; omega
        · have e : j = k := by omega
          subst e
          have HE : Hid (numV (numR (s.data.toList.drop n)) = numV (some (-numVal ((s.data.toList.drop (n + 1)).take j) 0, 1 + j))) := by
            show _ = _
            rw [HR.out, if_neg hbad]; rw [if_pos trivial]
          generalize hv : numVal ((s.data.toList.drop (n + 1)).take j) 0 = v at *
          clear hv
          go_wp2_with fail
          refine bodyPost_ret (v := numV (some (-v, 1 + j))) (by simp [results, Tryz.results64, go_sem, numV]) rfl ⟨by rw [← HQ.out, HE.out], ((Below.refl _ _).alloc (Nat.le_refl _) _)⟩

end Go.Proofs.YtpggfgjongkihaaGreat
namespace Go.Proofs.YtpggfgjongkihaaGreat
open Go.RowKit
def escR (d : UInt8) : Option UInt8 := if d = 34 then some 34 else if d = 92 then some 92 else if d = 110 then some 10 else if d = 116 then some 9 else none
/-- what a string says, behind its first sign: what stands there, what it said so far, how many bytes were taken -/
def strR : List UInt8 → List UInt8 → Nat → Option (List UInt8 × Nat)
  | [], _, _ => none
  | c :: r, acc, m =>
    if c = 34 then some (acc, m + 1)
    else if c < 32 ∨ 126 < c then none
    else if c = 92 then
      match r with
      | [] => none
      | d :: r' => match escR d with
        | none => none
        | some e => strR r' (acc ++ [e]) (m + 2)
    else strR r (acc ++ [c]) (m + 1)
def strV : Option (List UInt8 × Nat) → Value
  | none => .tuple #[.agg #[.int .i64 0, .string ⟨#[]⟩, .int .i64 0], .int .i64 0]
  | some (l, k) => .tuple #[.agg #[.int .i64 3, .string ⟨l.toArray⟩, .int .i64 0], .int .i64 k]
def bcells (l : List UInt8) : List Value := l.map fun b => Value.int .u8 (b.toNat : Int)
theorem u8_of_int {c d : UInt8} (h : (c.toNat : Int) = (d.toNat : Int)) : c = d := UInt8.toNat_inj.1 (by omega)
theorem u8_lt (c d : UInt8) : c < d ↔ (c.toNat : Int) < (d.toNat : Int) := by rw [UInt8.lt_iff_toNat_lt]; omega
theorem strR_cons (c : UInt8) (r acc : List UInt8) (m : Nat) : strR (c :: r) acc m = if c = 34 then some (acc, m + 1)
    else if c < 32 ∨ 126 < c then none
    else if c = 92 then
      match r with
      | [] => none
      | d :: r' => match escR d with
        | none => none
        | some e => strR r' (acc ++ [e]) (m + 2)
    else strR r (acc ++ [c]) (m + 1) := by cases r <;> rfl
theorem str_end (s : ByteArray) (k : Nat) (acc : List UInt8) (m : Nat) (h : s.size ≤ k) : strR (s.data.toList.drop k) acc m = none := by
  rw [List.drop_of_length_le (by simp; exact h)]; rfl
theorem str_quote (s : ByteArray) (k : Nat) (acc : List UInt8) (m : Nat) (h : k < s.size) (hc : s[k] = 34) : strR (s.data.toList.drop k) acc m = some (acc, m + 1) := by
  rw [drop_cons s k h, strR_cons, if_pos hc]
theorem str_bad (s : ByteArray) (k : Nat) (acc : List UInt8) (m : Nat) (h : k < s.size) (hc : s[k] < 32 ∨ 126 < s[k]) : strR (s.data.toList.drop k) acc m = none := by
  rw [drop_cons s k h, strR_cons, if_neg (by intro e; rw [e] at hc; revert hc; decide), if_pos hc]
theorem str_esc0 (s : ByteArray) (k : Nat) (acc : List UInt8) (m : Nat) (h : k < s.size) (hc : s[k] = 92) (hk : s.size ≤ k + 1) : strR (s.data.toList.drop k) acc m = none := by
  rw [drop_cons s k h, strR_cons, if_neg (by rw [hc]; decide), if_neg (by rw [hc]; decide), if_pos hc, List.drop_of_length_le (by simp; exact hk)]
theorem str_esc (s : ByteArray) (k : Nat) (acc : List UInt8) (m : Nat) (h : k + 1 < s.size) (hc : s[k] = 92) : strR (s.data.toList.drop k) acc m = match escR s[k + 1] with
    | none => none
    | some e => strR (s.data.toList.drop (k + 2)) (acc ++ [e]) (m + 2) := by
  rw [drop_cons s k (by omega), strR_cons, if_neg (by rw [hc]; decide), if_neg (by rw [hc]; decide), if_pos hc, drop_cons s (k + 1) h]
theorem str_plain (s : ByteArray) (k : Nat) (acc : List UInt8) (m : Nat) (h : k < s.size) (h1 : ¬ s[k] = 34) (h2 : ¬ (s[k] < 32 ∨ 126 < s[k])) (h3 : ¬ s[k] = 92) : strR (s.data.toList.drop k) acc m = strR (s.data.toList.drop (k + 1)) (acc ++ [s[k]]) (m + 1) := by
  rw [drop_cons s k h, strR_cons, if_neg h1, if_neg h2, if_neg h3]
theorem Tryz.info5 : (Tryz.prog.info? 5).map (fun i => (i.zero, i.size, i.bytes)) = some (some (.int .u8 0), 1, 1) := by kernel_rfl
def zeroTok : Obj := .cells #[.int .i64 0, .string ⟨#[]⟩, .int .i64 0] 137
theorem frozen_new (w : World) (cs : Array Value) (j : Nat) {T : TypeId} : (w.alloc (.cells cs T)).frozen? ⟨w.heap.size, j, none⟩ = false := by
  unfold World.frozen?
  rw [heap_alloc_new w _]
  simp
theorem bytes_back (w : World) (base : Nat) (v : Value) (l : List UInt8) (h : w.ownsRow base 5 1 v l.length (bcells l)) : (convert 81 9 v).run Tryz.prog w = .ok (.string ⟨l.toArray⟩) w := by
  rcases h.2 with ⟨rfl, h0⟩ | ⟨g, cap, cur, rfl, hg, hb, h1, h2, h3, h4⟩
  · have : l = [] := List.eq_nil_of_length_eq_zero h0
    subst this
    exact run_convert_bytes_nil _ 81 5 Tryz.underlying81 Tryz.underlying5 0 0 9 Tryz.underlying9
  · refine run_convert_bytes_back w 81 9 5 _ cap l Tryz.underlying81 Tryz.underlying5 Tryz.underlying9 ?_
    intro j hj
    have := h.cellAt j (by omega)
    rw [show (Addr.add ⟨g, 0, none⟩ j) = ⟨g, j, none⟩ from by simp only [Addr.add, Nat.zero_add]; split <;> simp_all, this]
    simp [bcells, hj]

set_option maxHeartbeats 1000000 in
set_option maxRecDepth 100000 in
theorem stringed_any (s : ByteArray) (n : Nat) (w : World) (h : n < s.size) (hs : s.size ≤ 100000) :
    Calls Tryz.prog 65 #[.string s, .int .i64 n] w fun e w' => e = .returned (strV (strR (s.data.toList.drop (n + 1)) [] 1)) ∧ Below w.heap.size w w' := by
  generalize hq : strV (strR (s.data.toList.drop (n + 1)) [] 1) = q
  have HQ := hide hq
  clear hq
  obtain ⟨i0, hi, hz0, hz1, hz2⟩ := info_parts Tryz.info5
  go_enter Tryz.func65, Tryz.ntmps65
  go_wp2_with fail
  go_loopw [6, 7] (fun v i wr => ∃ (k : Nat) (acc : List UInt8), n + 1 ≤ k ∧ k ≤ s.size ∧ i = .int .i64 k ∧ wr.ownsRow (w.heap.size + 1) 5 1 v acc.length (bcells acc) ∧ acc.length ≤ k ∧ Below (w.heap.size + 1) (w.alloc zeroTok) wr ∧ strR (s.data.toList.drop (n + 1)) [] 1 = strR (s.data.toList.drop k) acc (k - n)) (fun _ i _ => s.size - (intOf i).toNat)
  case atStart => exact ⟨n + 1, [], by omega, by omega, by go_num, World.ownsRow_nil _ _ _ _, by simp, Below.refl _ _, by simp⟩
  case round =>
    obtain ⟨k, acc, hk1, hk2, rfl, hown, hacc, hbel, hrr⟩ := hrel
    have HR := hide hrr
    clear hrr
    have hcell : ∀ j, wr.cell? ⟨w.heap.size, j, none⟩ = (w.alloc zeroTok).cell? ⟨w.heap.size, j, none⟩ := fun j => hbel.cell (by simp)
    have hfroz : ∀ j, wr.frozen? ⟨w.heap.size, j, none⟩ = false := fun j => by rw [hbel.frozen (by simp)]; exact frozen_new w _ j
    have hc0 : wr.cell? ⟨w.heap.size, 0, none⟩ = some (.int .i64 0) := by rw [hcell]; simp [zeroTok]
    have hc1 : wr.cell? ⟨w.heap.size, 1, none⟩ = some (.string ⟨#[]⟩) := by rw [hcell]; simp [zeroTok]
    have hc2 : wr.cell? ⟨w.heap.size, 2, none⟩ = some (.int .i64 0) := by rw [hcell]; simp [zeroTok]
    clear hcell
    have hlow : Below w.heap.size w wr := ((Below.refl _ _).alloc (Nat.le_refl _) _).trans (hbel.mono (by omega))
    have hfin : ∀ x y z, Below w.heap.size w (((wr.setCell ⟨w.heap.size, 0, none⟩ x).setCell ⟨w.heap.size, 1, none⟩ y).setCell ⟨w.heap.size, 2, none⟩ z) := fun x y z => ((hlow.setCell (Nat.le_refl _) x).setCell (Nat.le_refl _) y).setCell (Nat.le_refl _) z
    have hszr : w.heap.size + 1 ≤ wr.heap.size := by have := hbel.size; simp at this; omega
    by_cases hlt : k < s.size
    · have hx0 : 0 ≤ (s[k].toNat : Int) := by omega
      have hx1 : (s[k].toNat : Int) ≤ 255 := by have := s[k].toNat_lt; omega
      cases h34 : ((s[k].toNat : Int) == 34)
      · have n34 : ¬ s[k] = 34 := by intro e; rw [e] at h34; simp at h34
        by_cases hlo : (s[k].toNat : Int) < 32
        · go_wp2_with fail
          refine bodyPost_ret (v := strV none) (by simp [results, Tryz.results65, go_sem, strV, hc0, hc1, hc2]) rfl ⟨by rw [← HQ.out, HR.out, str_bad s k _ _ hlt (Or.inl ((u8_lt _ _).2 hlo))], hfin _ _ _⟩
        by_cases hhi : 126 < (s[k].toNat : Int)
        · go_wp2_with fail
          refine bodyPost_ret (v := strV none) (by simp [results, Tryz.results65, go_sem, strV, hc0, hc1, hc2]) rfl ⟨by rw [← HQ.out, HR.out, str_bad s k _ _ hlt (Or.inr ((u8_lt _ _).2 hhi))], hfin _ _ _⟩
        have nbad : ¬ (s[k] < 32 ∨ 126 < s[k]) := by
          rintro (x | x)
          · exact hlo ((u8_lt _ _).1 x)
          · exact hhi ((u8_lt _ _).1 x)
        cases h92 : ((s[k].toNat : Int) == 92)
        · have n92 : ¬ s[k] = 92 := by intro e; rw [e] at h92; simp at h92
          have HP := hide (str_plain s k acc (k - n) hlt n34 nbad n92)
          clear n34 n92 nbad
          have HN := hide (HP.out)
          go_wp2_with (at_builtin; refine wpList_append_own _ rfl _ _ 81 rfl (w.heap.size + 1) 5 i0 (.int .u8 0) 1 1 Tryz.underlying81 hi hz0 hz1 hz2 rfl (by decide) _ _ _ rfl (hown.alloc _) ⟨wr.heap.size, 0, none⟩ 1 1 [.int .u8 ↑s[k].toNat] rfl rfl (cell_one_new _ _ _) (fun u hu => by simp at hu; subst hu; rfl) (by unfold maxLen; omega) (by omega) (by simp; omega) ?_; intro v' w1 hown' hgrow _)
          have hbel' : Below (w.heap.size + 1) (w.alloc zeroTok) w1 := Below.grown (hbel.alloc (by omega) _) hgrow (by simp; omega) (fun k hk => (hown.lt k hk).1)
          go_roundw
          case rel => exact ⟨k + 1, acc ++ [_], by omega, by omega, by go_num, by simpa [bcells] using hown', by simp; omega, hbel', by rw [HR.out, HN.out]; congr 1; omega⟩
          case measure => simp [intOf]; omega
        · have e92 : s[k] = 92 := u8_of_int (by simpa using h92)
          have E92 := hide e92
          clear e92 n34 nbad
          by_cases hk3 : s.size ≤ k + 1
          · go_wp2_with fail
            refine bodyPost_ret (v := strV none) (by simp [results, Tryz.results65, go_sem, strV, hc0, hc1, hc2]) rfl ⟨by rw [← HQ.out, HR.out, str_esc0 s k _ _ hlt E92.out hk3], hfin _ _ _⟩
          have hk4 : k + 1 < s.size := by omega
          have HE := hide (str_esc s k acc (k - n) hk4 E92.out)
          cases g34 : ((s[k + 1].toNat : Int) == 34)
          · cases g92 : ((s[k + 1].toNat : Int) == 92)
            · cases g110 : ((s[k + 1].toNat : Int) == 110)
              · cases g116 : ((s[k + 1].toNat : Int) == 116)
                · have hes : escR s[k + 1] = none := by
                    unfold escR
                    rw [if_neg (by intro e; rw [e] at g34; simp at g34), if_neg (by intro e; rw [e] at g92; simp at g92), if_neg (by intro e; rw [e] at g110; simp at g110), if_neg (by intro e; rw [e] at g116; simp at g116)]
                  have HS := hide hes
                  clear hes
                  go_wp2_with fail
                  refine bodyPost_ret (v := strV none) (by simp [results, Tryz.results65, go_sem, strV, hc0, hc1, hc2]) rfl ⟨by rw [← HQ.out, HR.out, HE.out, HS.out], hfin _ _ _⟩
                · have HS := hide (show escR s[k + 1] = some 9 by rw [show s[k + 1] = 116 from u8_of_int (by simpa using g116)]; rfl)
                  have HP := hide (show strR (s.data.toList.drop k) acc (k - n) = strR (s.data.toList.drop (k + 2)) (acc ++ [9]) (k - n + 2) by rw [HE.out, HS.out])
                  have HN := hide (HP.out)
                  go_wp2_with (at_builtin; refine wpList_append_own _ rfl _ _ 81 rfl (w.heap.size + 1) 5 i0 (.int .u8 0) 1 1 Tryz.underlying81 hi hz0 hz1 hz2 rfl (by decide) _ _ _ rfl (hown.alloc _) ⟨wr.heap.size, 0, none⟩ 1 1 [.int .u8 9] rfl rfl (cell_one_new _ _ _) (fun u hu => by simp at hu; subst hu; rfl) (by unfold maxLen; omega) (by omega) (by simp; omega) ?_; intro v' w1 hown' hgrow _)
                  have hbel' : Below (w.heap.size + 1) (w.alloc zeroTok) w1 := Below.grown (hbel.alloc (by omega) _) hgrow (by simp; omega) (fun k hk => (hown.lt k hk).1)
                  go_roundw
                  case rel => exact ⟨k + 2, acc ++ [9], by omega, by omega, by go_num, by simpa [bcells] using hown', by simp; omega, hbel', by rw [HR.out, HN.out]; congr 1; omega⟩
                  case measure => simp [intOf]; omega
              · have HS := hide (show escR s[k + 1] = some 10 by rw [show s[k + 1] = 110 from u8_of_int (by simpa using g110)]; rfl)
                have HP := hide (show strR (s.data.toList.drop k) acc (k - n) = strR (s.data.toList.drop (k + 2)) (acc ++ [10]) (k - n + 2) by rw [HE.out, HS.out])
                have HN := hide (HP.out)
                go_wp2_with (at_builtin; refine wpList_append_own _ rfl _ _ 81 rfl (w.heap.size + 1) 5 i0 (.int .u8 0) 1 1 Tryz.underlying81 hi hz0 hz1 hz2 rfl (by decide) _ _ _ rfl (hown.alloc _) ⟨wr.heap.size, 0, none⟩ 1 1 [.int .u8 10] rfl rfl (cell_one_new _ _ _) (fun u hu => by simp at hu; subst hu; rfl) (by unfold maxLen; omega) (by omega) (by simp; omega) ?_; intro v' w1 hown' hgrow _)
                have hbel' : Below (w.heap.size + 1) (w.alloc zeroTok) w1 := Below.grown (hbel.alloc (by omega) _) hgrow (by simp; omega) (fun k hk => (hown.lt k hk).1)
                go_roundw
                case rel => exact ⟨k + 2, acc ++ [10], by omega, by omega, by go_num, by simpa [bcells] using hown', by simp; omega, hbel', by rw [HR.out, HN.out]; congr 1; omega⟩
                case measure => simp [intOf]; omega
            · have e2 := hide (show s[k + 1] = 92 from u8_of_int (by simpa using g92))
              have HS := hide (show escR s[k + 1] = some s[k + 1] by rw [e2.out]; rfl)
              have HP := hide (show strR (s.data.toList.drop k) acc (k - n) = strR (s.data.toList.drop (k + 2)) (acc ++ [s[k + 1]]) (k - n + 2) by rw [HE.out, HS.out])
              have HN := hide (HP.out)
              go_wp2_with (at_builtin; refine wpList_append_own _ rfl _ _ 81 rfl (w.heap.size + 1) 5 i0 (.int .u8 0) 1 1 Tryz.underlying81 hi hz0 hz1 hz2 rfl (by decide) _ _ _ rfl (hown.alloc _) ⟨wr.heap.size, 0, none⟩ 1 1 [.int .u8 ↑s[k + 1].toNat] rfl rfl (cell_one_new _ _ _) (fun u hu => by simp at hu; subst hu; rfl) (by unfold maxLen; omega) (by omega) (by simp; omega) ?_; intro v' w1 hown' hgrow _)
              have hbel' : Below (w.heap.size + 1) (w.alloc zeroTok) w1 := Below.grown (hbel.alloc (by omega) _) hgrow (by simp; omega) (fun k hk => (hown.lt k hk).1)
              go_roundw
              case rel => exact ⟨k + 2, acc ++ [_], by omega, by omega, by go_num, by simpa [bcells] using hown', by simp; omega, hbel', by rw [HR.out, HN.out]; congr 1; omega⟩
              case measure => simp [intOf]; omega
          · have e2 := hide (show s[k + 1] = 34 from u8_of_int (by simpa using g34))
            have HS := hide (show escR s[k + 1] = some s[k + 1] by rw [e2.out]; rfl)
            have HP := hide (show strR (s.data.toList.drop k) acc (k - n) = strR (s.data.toList.drop (k + 2)) (acc ++ [s[k + 1]]) (k - n + 2) by rw [HE.out, HS.out])
            have HN := hide (HP.out)
            go_wp2_with (at_builtin; refine wpList_append_own _ rfl _ _ 81 rfl (w.heap.size + 1) 5 i0 (.int .u8 0) 1 1 Tryz.underlying81 hi hz0 hz1 hz2 rfl (by decide) _ _ _ rfl (hown.alloc _) ⟨wr.heap.size, 0, none⟩ 1 1 [.int .u8 ↑s[k + 1].toNat] rfl rfl (cell_one_new _ _ _) (fun u hu => by simp at hu; subst hu; rfl) (by unfold maxLen; omega) (by omega) (by simp; omega) ?_; intro v' w1 hown' hgrow _)
            have hbel' : Below (w.heap.size + 1) (w.alloc zeroTok) w1 := Below.grown (hbel.alloc (by omega) _) hgrow (by simp; omega) (fun k hk => (hown.lt k hk).1)
            go_roundw
            case rel => exact ⟨k + 2, acc ++ [_], by omega, by omega, by go_num, by simpa [bcells] using hown', by simp; omega, hbel', by rw [HR.out, HN.out]; congr 1; omega⟩
            case measure => simp [intOf]; omega
      · have HE := hide (str_quote s k acc (k - n) hlt (u8_of_int (by simpa using h34)))
        have hconv := bytes_back wr _ _ acc hown
        go_wp2_with fail
        refine bodyPost_ret (v := strV (some (acc, k - n + 1))) (by simp [results, Tryz.results65, go_sem, strV, hc0, hc1, hc2]; omega) rfl ⟨by rw [← HQ.out, HR.out, HE.out], hfin _ _ _⟩
    · go_wp2_with fail
      refine bodyPost_ret (v := strV none) (by simp [results, Tryz.results65, go_sem, strV, hc0, hc1, hc2]) rfl ⟨by rw [← HQ.out, HR.out, str_end s k _ _ (by omega)], hfin _ _ _⟩
end Go.Proofs.YtpggfgjongkihaaGreat
namespace Go.Proofs.YtpggfgjongkihaaGreat
open Go.RowKit
structure Tk where
  k : Nat
  s : ByteArray
  n : Int
def blankB : ByteArray := ⟨#[32, 9, 13, 10, 44]⟩
def wordB : ByteArray := ⟨#[97, 98, 99, 100, 101, 102, 103, 104, 105, 106, 107, 108, 109, 110, 111, 112, 113, 114, 115, 116, 117, 118, 119, 120, 121, 122, 65, 66, 67, 68, 69, 70, 71, 72, 73, 74, 75, 76, 77, 78, 79, 80, 81, 82, 83, 84, 85, 86, 87, 88, 89, 90, 95, 48, 49, 50, 51, 52, 53, 54, 55, 56, 57]⟩
def digmB : ByteArray := ⟨#[48, 49, 50, 51, 52, 53, 54, 55, 56, 57, 45]⟩
def signsB : ByteArray := ⟨#[33, 36, 40, 41, 58, 61, 64, 91, 93, 123, 125, 124, 38]⟩
def ofB (l : List UInt8) : ByteArray := ⟨l.toArray⟩
def signAt : List UInt8 → UInt8 → Nat → Option Nat
  | [], _, _ => none
  | d :: l, c, i => if d = c then some i else signAt l c (i + 1)
/-- the token at the head of a text, and its size -/
def lex1 (l : List UInt8) : Option (Tk × Nat) :=
  match l with
  | [] => none
  | c :: r =>
    if inB lettersB c = true then some (⟨1, ofB ((c :: r).take (runLen (c :: r) wordB)), 0⟩, runLen (c :: r) wordB)
    else if inB digmB c = true then (numR (c :: r)).map fun x => (⟨2, ⟨#[]⟩, x.1⟩, x.2)
    else if c = 34 then (strR r [] 1).map fun x => (⟨3, ofB x.1, 0⟩, x.2)
    else if (c :: r).take 3 = [46, 46, 46] then some (⟨4, ⟨#[]⟩, 0⟩, 3)
    else (signAt signsB.data.toList c 5).map fun i => (⟨i, ⟨#[]⟩, 0⟩, 1)
def lexF : Nat → List UInt8 → Option (List Tk)
  | 0, _ => none
  | _ + 1, [] => some []
  | f + 1, c :: r =>
    if inB blankB c = true then lexF f r
    else if c = 35 then lexF f (r.dropWhile (· != 10))
    else match lex1 (c :: r) with
      | none => none
      | some x => (lexF f ((c :: r).drop x.2)).map (x.1 :: ·)
def lex (l : List UInt8) : Option (List Tk) := lexF (l.length + 1) l
theorem strR_size : ∀ (n : Nat) (l acc : List UInt8) (m : Nat) (x : List UInt8 × Nat), l.length ≤ n → strR l acc m = some x → m < x.2 ∧ x.2 ≤ m + l.length := by
  intro n
  induction n with
  | zero => intro l acc m x hl h; have : l = [] := List.eq_nil_of_length_eq_zero (by omega); subst this; cases h
  | succ n ih =>
    intro l acc m x hl h
    match l with
    | [] => cases h
    | c :: r =>
      rw [strR_cons] at h
      simp only [List.length_cons] at hl ⊢
      by_cases h1 : c = 34
      · rw [if_pos h1] at h; cases h; refine ⟨?_, ?_⟩ <;> (simp only; omega)
      rw [if_neg h1] at h
      by_cases h2 : c < 32 ∨ 126 < c
      · rw [if_pos h2] at h; cases h
      rw [if_neg h2] at h
      by_cases h3 : c = 92
      · rw [if_pos h3] at h
        match r with
        | [] => cases h
        | d :: r' =>
          cases he : escR d with
          | none => simp [he] at h
          | some e => simp only [he] at h; simp only [List.length_cons] at hl ⊢; have := ih r' _ _ x (by omega) h; omega
      · rw [if_neg h3] at h; have := ih r _ _ x (by omega) h; omega
theorem numR_size (l : List UInt8) (x : Int × Nat) (h : numR l = some x) : 0 < x.2 ∧ x.2 ≤ l.length := by
  unfold numR at h
  simp only at h
  generalize (if l.head? = some 45 then 1 else 0) = sg at h
  have hk := runLen_le (l.drop sg) digitsB
  generalize runLen (l.drop sg) digitsB = k at h hk
  generalize runLen (l.drop (sg + k)) lettersB = m at h
  by_cases hc : k < 1 ∨ 9 < k ∨ 0 < m ∨ (1 < k ∧ (l.drop sg).head? = some 48)
  · rw [if_pos hc] at h; cases h
  · rw [if_neg hc] at h; cases h
    simp only [List.length_drop] at hk
    simp only
    omega
theorem lex1_size (l : List UInt8) (x : Tk × Nat) (h : lex1 l = some x) : 0 < x.2 ∧ x.2 ≤ l.length := by
  unfold lex1 at h
  split at h
  · cases h
  · rename_i c r
    by_cases h1 : inB lettersB c = true
    · rw [if_pos h1] at h; cases h
      refine ⟨?_, runLen_le _ _⟩
      have : inB wordB c = true := by
        have k : ∀ i : Fin 256, inB lettersB (UInt8.ofFin i) = true → inB wordB (UInt8.ofFin i) = true := by decide +kernel
        exact k c.toFin h1
      simp [runLen, this]
    rw [if_neg h1] at h
    by_cases h2 : inB digmB c = true
    · rw [if_pos h2] at h
      cases hn : numR (c :: r) with
      | none => simp [hn] at h
      | some y => simp only [hn, Option.map_some, Option.some.injEq] at h; subst h; exact numR_size _ _ hn
    rw [if_neg h2] at h
    by_cases h3 : c = 34
    · rw [if_pos h3] at h
      cases hn : strR r [] 1 with
      | none => simp [hn] at h
      | some y => simp only [hn, Option.map_some, Option.some.injEq] at h; subst h; have := strR_size _ _ _ _ _ (Nat.le_refl _) hn; simp only [List.length_cons]; omega
    rw [if_neg h3] at h
    by_cases h4 : (c :: r).take 3 = [46, 46, 46]
    · rw [if_pos h4] at h; cases h
      have := congrArg List.length h4
      simp only [List.length_take, List.length_cons, List.length_nil] at this ⊢
      omega
    rw [if_neg h4] at h
    cases hn : signAt signsB.data.toList c 5 with
    | none => simp [hn] at h
    | some y => simp only [hn, Option.map_some, Option.some.injEq] at h; subst h; simp
theorem dropWhile_le {α : Type} (p : α → Bool) (l : List α) : (l.dropWhile p).length ≤ l.length := (List.dropWhile_suffix p).length_le
theorem lexF_fuel : ∀ (f g : Nat) (l : List UInt8), l.length < f → l.length < g → lexF f l = lexF g l := by
  intro f
  induction f with
  | zero => intro g l h; omega
  | succ f ih =>
    intro g l hf hg
    match g, l with
    | 0, _ => omega
    | g + 1, [] => rfl
    | g + 1, c :: r =>
      simp only [List.length_cons] at hf hg
      simp only [lexF]
      rw [ih g r (by omega) (by omega)]
      have h2 := dropWhile_le (· != 10) r
      rw [ih g (r.dropWhile (· != 10)) (by omega) (by omega)]
      cases hx : lex1 (c :: r) with
      | none => rfl
      | some x =>
        have := lex1_size _ _ hx
        simp only
        rw [ih g ((c :: r).drop x.2) (by simp; omega) (by simp; omega)]
theorem lex_nil : lex [] = some [] := rfl
theorem lex_blank (c : UInt8) (r : List UInt8) (h : inB blankB c = true) : lex (c :: r) = lex r := by
  unfold lex
  rw [List.length_cons, lexF, if_pos h]
theorem lex_hash (r : List UInt8) : lex (35 :: r) = lex (r.dropWhile (· != 10)) := by
  unfold lex
  rw [List.length_cons, lexF, if_neg (by decide), if_pos rfl]
  have h2 := dropWhile_le (· != 10) r
  exact lexF_fuel _ _ _ (by omega) (by omega)
theorem lex_bad (c : UInt8) (r : List UInt8) (h1 : inB blankB c = false) (h2 : ¬ c = 35) (h : lex1 (c :: r) = none) : lex (c :: r) = none := by
  unfold lex
  rw [List.length_cons, lexF, if_neg (by simp [h1]), if_neg h2, h]
theorem lex_tok (c : UInt8) (r : List UInt8) (x : Tk × Nat) (h1 : inB blankB c = false) (h2 : ¬ c = 35) (h : lex1 (c :: r) = some x) : lex (c :: r) = (lex ((c :: r).drop x.2)).map (x.1 :: ·) := by
  unfold lex
  rw [List.length_cons, lexF, if_neg (by simp [h1]), if_neg h2, h]
  have := lex1_size _ _ h
  simp only [List.length_cons] at this
  simp only
  rw [lexF_fuel (r.length + 1) (((c :: r).drop x.2).length + 1) _ (by simp; omega) (by omega)]
end Go.Proofs.YtpggfgjongkihaaGreat
namespace Go.Proofs.YtpggfgjongkihaaGreat
open Go.RowKit
theorem inB_word (c : UInt8) : inB wordB c = true ↔ (48 ≤ (c.toNat : Int) ∧ (c.toNat : Int) ≤ 57) ∨ (c.toNat : Int) = 95 ∨ (97 ≤ (c.toNat : Int) ∧ (c.toNat : Int) ≤ 122) ∨ (65 ≤ (c.toNat : Int) ∧ (c.toNat : Int) ≤ 90) := by
  have h : ∀ i : Fin 256, inB wordB (UInt8.ofFin i) = decide ((48 ≤ i.val ∧ i.val ≤ 57) ∨ i.val = 95 ∨ (97 ≤ i.val ∧ i.val ≤ 122) ∨ (65 ≤ i.val ∧ i.val ≤ 90)) := by decide +kernel
  have := h c.toFin
  rw [show UInt8.ofFin c.toFin = c from rfl] at this
  rw [this]
  simp only [decide_eq_true_eq]
  show ((48 ≤ c.toNat ∧ c.toNat ≤ 57) ∨ c.toNat = 95 ∨ (97 ≤ c.toNat ∧ c.toNat ≤ 122) ∨ (65 ≤ c.toNat ∧ c.toNat ≤ 90)) ↔ _
  omega
set_option maxHeartbeats 400000 in
theorem isDigit_any (c : UInt8) (w : World) : Calls Tryz.prog 158 #[.int .u8 c.toNat] w fun e w' => e = .returned (.bool (inB digitsB c)) ∧ w' = w := by
  have hb : (c.toNat : Int) ≤ 255 := by have := c.toNat_lt; omega
  have hd := inB_digits c
  have H := hide hd
  clear hd
  by_cases h1 : 48 ≤ (c.toNat : Int)
  · by_cases h2 : (c.toNat : Int) ≤ 57
    · have E := hide (show inB digitsB c = true from H.out.2 ⟨h1, h2⟩)
      go_enter Tryz.func158, Tryz.ntmps158
      go_wp2
      go_ret
      exact ⟨ret_bool (by rw [E.out] <;> first | rfl | (simp; omega)), rfl⟩
    · have E := hide (show inB digitsB c = false from by cases hx : inB digitsB c; rfl; have := H.out.1 hx; omega)
      go_enter Tryz.func158, Tryz.ntmps158
      go_wp2
      go_ret
      exact ⟨ret_bool (by rw [E.out] <;> first | rfl | (simp; omega)), rfl⟩
  · have E := hide (show inB digitsB c = false from by cases hx : inB digitsB c; rfl; have := H.out.1 hx; omega)
    go_enter Tryz.func158, Tryz.ntmps158
    go_wp2
    go_ret
    exact ⟨ret_bool (by rw [E.out] <;> first | rfl | (simp; omega)), rfl⟩
set_option maxHeartbeats 400000 in
theorem isWord_any (c : UInt8) (w : World) : Calls Tryz.prog 160 #[.int .u8 c.toNat] w fun e w' => e = .returned (.bool (inB wordB c)) ∧ w' = w := by
  have hb : (c.toNat : Int) ≤ 255 := by have := c.toNat_lt; omega
  have H := hide (inB_word c)
  have D := hide (inB_digits c)
  cases hd : inB digitsB c
  · have nd : ¬ (48 ≤ (c.toNat : Int) ∧ (c.toNat : Int) ≤ 57) := fun h => by rw [D.out.2 h] at hd; cases hd
    have ND := hide nd
    clear nd
    cases h95 : ((c.toNat : Int) == 95)
    · have n95 : (c.toNat : Int) ≠ 95 := by simpa using h95
      have N95 := hide n95
      clear n95
      by_cases ha : 97 ≤ (c.toNat : Int)
      · by_cases hz : (c.toNat : Int) ≤ 122
        · have E := hide (show inB wordB c = true from H.out.2 (Or.inr (Or.inr (Or.inl ⟨ha, hz⟩))))
          go_enter Tryz.func160, Tryz.ntmps160
          go_wp2_with (go_at_call 158; refine (isDigit_any _ _).mono ?_; rintro e w' ⟨rfl, rfl⟩)
          go_ret
          exact ⟨ret_bool (by rw [E.out] <;> first | rfl | (simp; omega)), rfl⟩
        · have E := hide (show inB wordB c = false from by cases hx : inB wordB c; rfl; have := H.out.1 hx; have := ND.out; have := N95.out; omega)
          go_enter Tryz.func160, Tryz.ntmps160
          go_wp2_with (go_at_call 158; refine (isDigit_any _ _).mono ?_; rintro e w' ⟨rfl, rfl⟩)
          go_ret
          exact ⟨ret_bool (by rw [E.out] <;> first | rfl | (simp; omega)), rfl⟩
      · by_cases ha2 : 65 ≤ (c.toNat : Int)
        · by_cases hz2 : (c.toNat : Int) ≤ 90
          · have E := hide (show inB wordB c = true from H.out.2 (Or.inr (Or.inr (Or.inr ⟨ha2, hz2⟩))))
            go_enter Tryz.func160, Tryz.ntmps160
            go_wp2_with (go_at_call 158; refine (isDigit_any _ _).mono ?_; rintro e w' ⟨rfl, rfl⟩)
            go_ret
            exact ⟨ret_bool (by rw [E.out] <;> first | rfl | (simp; omega)), rfl⟩
          · have E := hide (show inB wordB c = false from by cases hx : inB wordB c; rfl; have := H.out.1 hx; have := ND.out; have := N95.out; omega)
            go_enter Tryz.func160, Tryz.ntmps160
            go_wp2_with (go_at_call 158; refine (isDigit_any _ _).mono ?_; rintro e w' ⟨rfl, rfl⟩)
            go_ret
            exact ⟨ret_bool (by rw [E.out] <;> first | rfl | (simp; omega)), rfl⟩
        · have E := hide (show inB wordB c = false from by cases hx : inB wordB c; rfl; have := H.out.1 hx; have := ND.out; have := N95.out; omega)
          go_enter Tryz.func160, Tryz.ntmps160
          go_wp2_with (go_at_call 158; refine (isDigit_any _ _).mono ?_; rintro e w' ⟨rfl, rfl⟩)
          go_ret
          exact ⟨ret_bool (by rw [E.out] <;> first | rfl | (simp; omega)), rfl⟩
    · have E := hide (show inB wordB c = true from H.out.2 (Or.inr (Or.inl (by simpa using h95))))
      go_enter Tryz.func160, Tryz.ntmps160
      go_wp2_with (go_at_call 158; refine (isDigit_any _ _).mono ?_; rintro e w' ⟨rfl, rfl⟩)
      go_ret
      exact ⟨ret_bool (by rw [E.out] <;> first | rfl | (simp; omega)), rfl⟩
  · have E := hide (show inB wordB c = true from H.out.2 (Or.inl (D.out.1 hd)))
    go_enter Tryz.func160, Tryz.ntmps160
    go_wp2_with (go_at_call 158; refine (isDigit_any _ _).mono ?_; rintro e w' ⟨rfl, rfl⟩)
    go_ret
    exact ⟨ret_bool (by rw [E.out] <;> first | rfl | (simp; omega)), rfl⟩
set_option maxHeartbeats 400000 in
theorem wordSize_any (s : ByteArray) (w : World) (hs : s.size ≤ 100000) :
    Calls Tryz.prog 161 #[.string s] w fun e w' => e = .returned (.int .i64 (runLen s.data.toList wordB : Nat)) ∧ w' = w := by
  generalize hq : runLen s.data.toList wordB = q
  have HQ := hide hq
  clear hq
  go_enter Tryz.func161, Tryz.ntmps161
  go_wp2_with fail
  go_loop [3] (fun i => ∃ k : Nat, k ≤ s.size ∧ i = .int .i64 k ∧ ∀ x ∈ (s.data.toList.drop 0).take k, inB wordB x = true) (fun i => s.size - (intOf i).toNat)
  case atStart => exact ⟨0, by omega, rfl, by simp⟩
  case round =>
    obtain ⟨k, hk, rfl, hc⟩ := hrel
    have HC := hide hc
    clear hc
    by_cases hlt : k < s.size
    · cases hp : inB wordB s[k]
      · go_wp2_with (go_at_call 160; refine (isWord_any _ _).mono ?_; rintro e w' ⟨rfl, rfl⟩)
        go_ret
        exact ⟨ret_int (by rw [← HQ.out]; have := runLen_stop s wordB 0 k (by omega) HC.out (fun _ => by simpa using hp); rw [List.drop_zero] at this; rw [this]), rfl⟩
      · go_wp2_with (go_at_call 160; refine (isWord_any _ _).mono ?_; rintro e w' ⟨rfl, rfl⟩)
        go_round
        case rel => exact ⟨k + 1, by omega, by go_num, runLen_step s wordB 0 k (by omega) HC.out (by simpa using hp)⟩
        case measure => simp [intOf]; omega
    · go_wp2_with fail
      go_ret
      exact ⟨ret_int (by rw [← HQ.out]; have := runLen_stop s wordB 0 k (by omega) HC.out (fun h => absurd h (by omega)); rw [List.drop_zero] at this; rw [this]), rfl⟩
def escV : Option UInt8 → Int
  | none => 0
  | some c => c.toNat
def escH (l : List UInt8) : Option UInt8 := match l with
  | [] => none
  | d :: _ => escR d
set_option maxHeartbeats 400000 in
theorem escaped_any (s : ByteArray) (w : World) :
    Calls Tryz.prog 192 #[.string s] w fun e w' => e = .returned (.int .u8 (escV (escH s.data.toList))) ∧ w' = w := by
  generalize hq : escV (escH s.data.toList) = q
  have HQ := hide hq
  clear hq
  by_cases h0 : 0 < s.size
  · have HE := hide (show escH s.data.toList = escR s[0] from by have := drop_cons s 0 h0; rw [List.drop_zero] at this; rw [this]; rfl)
    have hne : s.toList.isEmpty = false := by rw [ByteArray.toList_eq s]; have := drop_cons s 0 h0; rw [List.drop_zero] at this; rw [this]; rfl
    cases g34 : ((s[0].toNat : Int) == 34)
    · cases g92 : ((s[0].toNat : Int) == 92)
      · cases g110 : ((s[0].toNat : Int) == 110)
        · cases g116 : ((s[0].toNat : Int) == 116)
          · have HS := hide (show escR s[0] = none by
              unfold escR
              rw [if_neg (by intro e; rw [e] at g34; simp at g34), if_neg (by intro e; rw [e] at g92; simp at g92), if_neg (by intro e; rw [e] at g110; simp at g110), if_neg (by intro e; rw [e] at g116; simp at g116)])
            go_enter Tryz.func192, Tryz.ntmps192
            go_wp2
            go_ret
            exact ⟨ret_int (by rw [← HQ.out, HE.out, HS.out]; rfl), rfl⟩
          · have HS := hide (show escR s[0] = some 9 by rw [show s[0] = 116 from u8_of_int (by simpa using g116)]; rfl)
            go_enter Tryz.func192, Tryz.ntmps192
            go_wp2
            go_ret
            exact ⟨ret_int (by rw [← HQ.out, HE.out, HS.out]; rfl), rfl⟩
        · have HS := hide (show escR s[0] = some 10 by rw [show s[0] = 110 from u8_of_int (by simpa using g110)]; rfl)
          go_enter Tryz.func192, Tryz.ntmps192
          go_wp2
          go_ret
          exact ⟨ret_int (by rw [← HQ.out, HE.out, HS.out]; rfl), rfl⟩
      · have e2 := hide (show s[0] = 92 from u8_of_int (by simpa using g92))
        have HS := hide (show escR s[0] = some s[0] by rw [e2.out]; rfl)
        go_enter Tryz.func192, Tryz.ntmps192
        go_wp2
        go_ret
        exact ⟨ret_int (by rw [← HQ.out, HE.out, HS.out]; rfl), rfl⟩
    · have e2 := hide (show s[0] = 34 from u8_of_int (by simpa using g34))
      have HS := hide (show escR s[0] = some s[0] by rw [e2.out]; rfl)
      go_enter Tryz.func192, Tryz.ntmps192
      go_wp2
      go_ret
      exact ⟨ret_int (by rw [← HQ.out, HE.out, HS.out]; rfl), rfl⟩
  · have hl : s.data.toList = [] := List.eq_nil_of_length_eq_zero (by show s.size = 0; omega)
    have hne : s.toList.isEmpty = true := by rw [ByteArray.toList_eq s, hl]; rfl
    have HL := hide hl
    clear hl
    go_enter Tryz.func192, Tryz.ntmps192
    go_wp2
    go_ret
    exact ⟨ret_int (by rw [← HQ.out, HL.out]; rfl), rfl⟩
end Go.Proofs.YtpggfgjongkihaaGreat
