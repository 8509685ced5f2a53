/- The reference's cutting: Cut. Readers: their states as plain data; what is kept of memory. What is cut is well formed. -/
import Derived.Test.YtpggfgjongkihaaGreatM01
import Derived.Lib.Strings
namespace Go.Proofs.YtpggfgjongkihaaGreat
open Go.RowKit
def rk (k : Nat) : Nat := if k ≤ 3 then k else 4
def rs (t : Tk) : ByteArray := if t.k ≤ 3 then t.s else if t.k = 4 then ⟨#[46, 46, 46]⟩ else ofB [signsB.data.toList.getD (t.k - 5) 0]
def refTok (t : Tk) : List Value := [.int .i64 (rk t.k), .string (rs t), .int .i64 t.n]
def refToks (ts : List Tk) : List Value := ts.flatMap refTok
def cutS (s : ByteArray) : Option (List Tk) := if 4000 < s.size then none else match lex s.data.toList with
  | none => none
  | some ts => if ts.length ≤ 800 then some ts else none
theorem refToks_len (ts : List Tk) : (refToks ts).length = ts.length * 3 := by
  induction ts with
  | nil => rfl
  | cons t ts ih => simp only [refToks, List.flatMap_cons, List.length_append, List.length_cons] at ih ⊢; rw [ih]; simp [refTok]; omega
theorem ownsRow_of_block {w w' : World} {base : Nat} {e : TypeId} {size : Nat} {v : Value} {n : Nat} {xs : List Value} (h : w.ownsRow base e size v n xs) (hk : ∀ k, v.ownBlock = some k → k < w.heap.size → w'.heap[k]? = w.heap[k]?) : w'.ownsRow base e size v n xs := by
  refine ⟨h.1, ?_⟩
  rcases h.2 with x | ⟨g, cap, cur, hv, hg, hh, r⟩
  · exact Or.inl x
  · have hlt : g < w.heap.size := by
      rcases Nat.lt_or_ge g w.heap.size with a | a
      · exact a
      · rw [Array.getElem?_eq_none a] at hh; cases hh
    exact Or.inr ⟨g, cap, cur, hv, hg, by rw [hk g (by rw [hv]; rfl) hlt]; exact hh, r⟩
theorem ownsRow_below {w w' : World} {base : Nat} {e : TypeId} {size : Nat} {v : Value} {n : Nat} {xs : List Value} (h : w.ownsRow base e size v n xs) (hb : Below w.heap.size w w') : w'.ownsRow base e size v n xs :=
  ownsRow_of_block h fun k _ hk => hb.block k hk
theorem ownsRow_lower {w : World} {base base' : Nat} {e : TypeId} {size : Nat} {v : Value} {n : Nat} {xs : List Value} (h : w.ownsRow base e size v n xs) (hb : base' ≤ base) : w.ownsRow base' e size v n xs := by
  refine ⟨h.1, ?_⟩
  rcases h.2 with x | ⟨g, cap, cur, hv, hg, r⟩
  · exact Or.inl x
  · exact Or.inr ⟨g, cap, cur, hv, by omega, r⟩
theorem cells_new (w : World) (l : List Value) (T : TypeId) : ∀ j u, l[j]? = some u → (w.alloc (.cells l.toArray T)).cell? ((⟨w.heap.size, 0, none⟩ : Addr).add j) = some u := by
  intro j u h
  have e : (⟨w.heap.size, 0, none⟩ : Addr).add j = ⟨w.heap.size, j, none⟩ := by simp only [Addr.add, Nat.zero_add]; split <;> simp_all
  rw [e]
  unfold World.cell?
  rw [heap_alloc_new w _]
  simp [h]
theorem Tryz.info137 : (Tryz.prog.info? 137).map (fun i => (i.zero, i.size, i.bytes)) = some (some (.agg #[.int .i64 0, .string ⟨#[]⟩, .int .i64 0]), 3, 32) := by kernel_rfl
theorem lex_at_end (s : ByteArray) (k : Nat) (h : s.size ≤ k) : lex (s.data.toList.drop k) = some [] := by
  rw [List.drop_of_length_le (by simp; exact h)]; rfl
theorem lex_at_blank (s : ByteArray) (k : Nat) (h : k < s.size) (hb : inB blankB s[k] = true) : lex (s.data.toList.drop k) = lex (s.data.toList.drop (k + 1)) := by
  rw [drop_cons s k h, lex_blank _ _ hb]
theorem dropWhile_drop (s : ByteArray) : ∀ (d k j : Nat), s.size - k ≤ d → k ≤ j → j ≤ s.size → (∀ i, k ≤ i → (h : i < s.size) → i < j → s[i] ≠ 10) → (∀ h : j < s.size, s[j] = 10) → (s.data.toList.drop k).dropWhile (· != 10) = s.data.toList.drop j := by
  intro d
  induction d with
  | zero => intro k j hd hk hj _ _; rw [List.drop_of_length_le (by simp; show s.size ≤ k; omega), List.drop_of_length_le (by simp; show s.size ≤ j; omega)]; rfl
  | succ d ih =>
    intro k j hd hk hj h1 h2
    by_cases hks : k < s.size
    · by_cases hkj : k = j
      · subst hkj
        rw [drop_cons s k hks, List.dropWhile_cons_of_neg (by simp [h2 hks])]
      · rw [drop_cons s k hks, List.dropWhile_cons_of_pos (by simpa using h1 k (Nat.le_refl _) hks (by omega))]
        exact ih (k + 1) j (by omega) (by omega) hj (fun i hi h hij => h1 i (by omega) h hij) h2
    · rw [List.drop_of_length_le (by simp; show s.size ≤ k; omega), List.drop_of_length_le (by simp; show s.size ≤ j; omega)]; rfl
theorem lex_at_hash (s : ByteArray) (k j : Nat) (h : k < s.size) (hc : s[k] = 35) (hk : k ≤ j) (hj : j ≤ s.size) (h1 : ∀ i, k ≤ i → (h : i < s.size) → i < j → s[i] ≠ 10) (h2 : ∀ h : j < s.size, s[j] = 10) : k < j ∧ lex (s.data.toList.drop k) = lex (s.data.toList.drop j) := by
  have hkj : k ≠ j := by intro e; subst e; have := h2 h; rw [hc] at this; revert this; decide
  refine ⟨by omega, ?_⟩
  rw [drop_cons s k h, hc, lex_hash, dropWhile_drop s (s.size - k) (k + 1) j (by omega) (by omega) hj (fun i hi h hij => h1 i (by omega) h hij) h2]
theorem lex_at_bad (s : ByteArray) (k : Nat) (h : k < s.size) (h1 : inB blankB s[k] = false) (h2 : ¬ s[k] = 35) (hx : lex1 (s.data.toList.drop k) = none) : lex (s.data.toList.drop k) = none := by
  rw [drop_cons s k h] at hx ⊢; exact lex_bad _ _ h1 h2 hx
theorem lex_at_tok (s : ByteArray) (k : Nat) (x : Tk × Nat) (h : k < s.size) (h1 : inB blankB s[k] = false) (h2 : ¬ s[k] = 35) (hx : lex1 (s.data.toList.drop k) = some x) : lex (s.data.toList.drop k) = (lex (s.data.toList.drop (k + x.2))).map (x.1 :: ·) := by
  have := drop_cons s k h
  rw [this] at hx
  rw [this, lex_tok _ _ x h1 h2 hx, ← this, List.drop_drop]
theorem lex1_word (s : ByteArray) (k : Nat) (h : k < s.size) (h1 : inB lettersB s[k] = true) : lex1 (s.data.toList.drop k) = some (⟨1, s.extract k (k + runLen (s.data.toList.drop k) wordB), 0⟩, runLen (s.data.toList.drop k) wordB) := by
  have e : s.extract k (k + runLen (s.data.toList.drop k) wordB) = ofB ((s.data.toList.drop k).take (runLen (s.data.toList.drop k) wordB)) := by
    apply ByteArray.ext
    apply Array.toList_inj.1
    simp [ofB]
  rw [e, drop_cons s k h]
  simp only [lex1]
  rw [if_pos h1]
theorem lex1_num (s : ByteArray) (k : Nat) (h : k < s.size) (h1 : inB lettersB s[k] = false) (h2 : inB digmB s[k] = true) : lex1 (s.data.toList.drop k) = (numR (s.data.toList.drop k)).map fun x => (⟨2, ⟨#[]⟩, x.1⟩, x.2) := by
  rw [drop_cons s k h]
  simp only [lex1]
  rw [if_neg (by simp [h1]), if_pos h2]
theorem lex1_str (s : ByteArray) (k : Nat) (h : k < s.size) (h1 : inB lettersB s[k] = false) (h2 : inB digmB s[k] = false) (h3 : s[k] = 34) : lex1 (s.data.toList.drop k) = (strR (s.data.toList.drop (k + 1)) [] 1).map fun x => (⟨3, ofB x.1, 0⟩, x.2) := by
  rw [drop_cons s k h]
  simp only [lex1]
  rw [if_neg (by simp [h1]), if_neg (by simp [h2]), if_pos h3]
theorem lex1_dots (s : ByteArray) (k : Nat) (h : k < s.size) (h1 : inB lettersB s[k] = false) (h2 : inB digmB s[k] = false) (h3 : ¬ s[k] = 34) (h4 : (s.data.toList.drop k).take 3 = [46, 46, 46]) : lex1 (s.data.toList.drop k) = some (⟨4, ⟨#[]⟩, 0⟩, 3) := by
  rw [drop_cons s k h] at h4 ⊢
  simp only [lex1]
  rw [if_neg (by simp [h1]), if_neg (by simp [h2]), if_neg h3, if_pos h4]
theorem lex1_sign (s : ByteArray) (k : Nat) (h : k < s.size) (h1 : inB lettersB s[k] = false) (h2 : inB digmB s[k] = false) (h3 : ¬ s[k] = 34) (h4 : ¬ (s.data.toList.drop k).take 3 = [46, 46, 46]) : lex1 (s.data.toList.drop k) = (signAt signsB.data.toList s[k] 5).map fun i => (⟨i, ⟨#[]⟩, 0⟩, 1) := by
  rw [drop_cons s k h] at h4 ⊢
  simp only [lex1]
  rw [if_neg (by simp [h1]), if_neg (by simp [h2]), if_neg h3, if_neg h4]

theorem numbered_none (s : ByteArray) (n : Nat) (w : World) (h : n < s.size) (hs : s.size ≤ 100000) (hn : numR (s.data.toList.drop n) = none) :
    Calls Tryz.prog 64 #[.string s, .int .i64 n] w fun e w' => e = .returned (.tuple #[.agg #[.int .i64 0, .string ⟨#[]⟩, .int .i64 0], .int .i64 0]) ∧ Below w.heap.size w w' := by
  have := numbered_any s n w h hs
  rw [hn] at this
  exact this
theorem numbered_some (s : ByteArray) (n : Nat) (w : World) (v : Int) (m : Nat) (h : n < s.size) (hs : s.size ≤ 100000) (hn : numR (s.data.toList.drop n) = some (v, m)) :
    Calls Tryz.prog 64 #[.string s, .int .i64 n] w fun e w' => e = .returned (.tuple #[.agg #[.int .i64 2, .string ⟨#[]⟩, .int .i64 v], .int .i64 m]) ∧ Below w.heap.size w w' := by
  have := numbered_any s n w h hs
  rw [hn] at this
  exact this
theorem stringed_none (s : ByteArray) (n : Nat) (w : World) (h : n < s.size) (hs : s.size ≤ 100000) (hn : strR (s.data.toList.drop (n + 1)) [] 1 = none) :
    Calls Tryz.prog 65 #[.string s, .int .i64 n] w fun e w' => e = .returned (.tuple #[.agg #[.int .i64 0, .string ⟨#[]⟩, .int .i64 0], .int .i64 0]) ∧ Below w.heap.size w w' := by
  have := stringed_any s n w h hs
  rw [hn] at this
  exact this
theorem stringed_some (s : ByteArray) (n : Nat) (w : World) (l : ByteArray) (m : Nat) (h : n < s.size) (hs : s.size ≤ 100000) (hn : strR (s.data.toList.drop (n + 1)) [] 1 = some (l.data.toList, m)) :
    Calls Tryz.prog 65 #[.string s, .int .i64 n] w fun e w' => e = .returned (.tuple #[.agg #[.int .i64 3, .string l, .int .i64 0], .int .i64 m]) ∧ Below w.heap.size w w' := by
  have := stringed_any s n w h hs
  rw [hn] at this
  exact this
theorem cells_new' (w : World) (g : Nat) (l : List Value) (T : TypeId) (hg : g = w.heap.size) : ∀ j u, l[j]? = some u → (w.alloc (.cells l.toArray T)).cell? ((⟨g, 0, none⟩ : Addr).add j) = some u := by
  subst hg; exact cells_new w l T
theorem own_slice {w : World} {base : Nat} {e : TypeId} {size : Nat} {v : Value} {n : Nat} {xs : List Value} (h : w.ownsRow base e size v n xs) : ∃ a cap, v = .slice a n cap := by
  rcases h.2 with ⟨x, y⟩ | ⟨g, cap, cur, hv, r⟩
  · subst y; exact ⟨none, 0, x⟩
  · exact ⟨_, _, hv⟩
theorem refToks_snoc (ts : List Tk) (t : Tk) : refToks (ts ++ [t]) = refToks ts ++ refTok t := by simp [refToks]
theorem rel_tok (s : ByteArray) (k m : Nat) (ts : List Tk) (t : Tk) (h : lex s.data.toList = (lex (s.data.toList.drop k)).map (ts ++ ·)) (hx : lex (s.data.toList.drop k) = (lex (s.data.toList.drop (k + m))).map (t :: ·)) : lex s.data.toList = (lex (s.data.toList.drop (k + m))).map ((ts ++ [t]) ++ ·) := by
  rw [h, hx]
  cases lex (s.data.toList.drop (k + m)) <;> simp
theorem one3 {a b c : Value} (h1 : a.oneCell' = true) (h2 : b.oneCell' = true) (h3 : c.oneCell' = true) : ∀ u ∈ [a, b, c], u.oneCell' = true := by
  intro u hu; simp at hu; rcases hu with rfl | rfl | rfl <;> assumption
theorem signAt_some (c : UInt8) (h : inB signsB c = true) : ∃ i, signAt signsB.data.toList c 5 = some i ∧ 5 ≤ i ∧ i ≤ 17 ∧ signsB.data.toList.getD (i - 5) 0 = c := by
  have k : ∀ x : Fin 256, inB signsB (UInt8.ofFin x) = true → (match signAt signsB.data.toList (UInt8.ofFin x) 5 with | none => false | some i => decide (5 ≤ i ∧ i ≤ 17 ∧ signsB.data.toList.getD (i - 5) 0 = UInt8.ofFin x)) = true := by decide +kernel
  have := k c.toFin h
  rw [show UInt8.ofFin c.toFin = c from rfl] at this
  cases hx : signAt signsB.data.toList c 5 with
  | none => rw [hx] at this; cases this
  | some i => rw [hx] at this; simp only [decide_eq_true_eq] at this; exact ⟨i, rfl, this⟩
theorem signAt_none (c : UInt8) (h : inB signsB c = false) : signAt signsB.data.toList c 5 = none := by
  have k : ∀ x : Fin 256, inB signsB (UInt8.ofFin x) = false → (signAt signsB.data.toList (UInt8.ofFin x) 5).isNone = true := by decide +kernel
  have := k c.toFin h
  rw [show UInt8.ofFin c.toFin = c from rfl] at this
  exact Option.isNone_iff_eq_none.1 this
theorem take3_eq (s : ByteArray) (k : Nat) : ((s.extract k (k + 3)).toList == [46, 46, 46]) = decide ((s.data.toList.drop k).take 3 = [46, 46, 46]) := by
  rw [Lib.toList_data, Lib.extract_data, show k + 3 - k = 3 from by omega]
  rw [Bool.eq_iff_iff]; simp
theorem extract_one (s : ByteArray) (k : Nat) (h : k < s.size) : s.extract k (k + 1) = ofB [s[k]] := by
  apply ByteArray.ext
  apply Array.toList_inj.1
  rw [Lib.extract_data, drop_cons s k h, show k + 1 - k = 1 from by omega]
  rfl
theorem cut_none (s : ByteArray) (h : lex s.data.toList = none) : cutS s = none := by
  unfold cutS; rw [h]; split <;> rfl
theorem cut_some (s : ByteArray) (ts : List Tk) (h0 : ¬ 4000 < s.size) (h : lex s.data.toList = some ts) : cutS s = if decide ((ts.length : Int) ≤ 800) = true then some ts else none := by
  unfold cutS; rw [if_neg h0, h]; simp only [decide_eq_true_eq]
  by_cases hl : ts.length ≤ 800
  · rw [if_pos hl, if_pos (by omega)]
  · rw [if_neg hl, if_neg (by omega)]
theorem sign_toks (s : ByteArray) (k i : Nat) (h : k < s.size) (h1 : 5 ≤ i) (h2 : i ≤ 17) (h3 : signsB.data.toList.getD (i - 5) 0 = s[k]) : [Value.int .i64 4, .string (s.extract k (k + 1)), .int .i64 0] = refTok ⟨i, ⟨#[]⟩, 0⟩ := by
  rw [extract_one s k h, ← h3]
  simp only [refTok, rk, rs]
  rw [if_neg (by omega), if_neg (by omega), if_neg (by omega)]
  rfl

set_option maxHeartbeats 4000000 in
set_option maxRecDepth 100000 in
theorem refCut_any (s : ByteArray) (w : World) (hs : s.size ≤ maxLen) :
    Calls Tryz.prog 33 #[.string s] w fun e w' => ∃ v b ts, e = .returned (.tuple #[v, .bool b]) ∧ Below w.heap.size w w' ∧ w'.ownsRow w.heap.size 137 3 v ts.length (refToks ts) ∧ cutS s = if b = true then some ts else none := by
  unfold maxLen at hs
  by_cases hbig : 4000 < s.size
  · go_enter Tryz.func33, Tryz.ntmps33
    go_wp2_with fail
    go_ret2
    exact ⟨_, _, [], rfl, Below.refl _ _, World.ownsRow_nil _ _ _ _, by simp [cutS, hbig]⟩
  obtain ⟨i0, hi, hz0, hz1, hz2⟩ := info_parts Tryz.info137
  go_enter Tryz.func33, Tryz.ntmps33
  go_wp2_with fail
  go_loopw [4, 5] (fun v i wr => ∃ (k : Nat) (ts : List Tk), k ≤ s.size ∧ i = .int .i64 k ∧ wr.ownsRow w.heap.size 137 3 v ts.length (refToks ts) ∧ ts.length ≤ k ∧ Below w.heap.size w wr ∧ lex s.data.toList = (lex (s.data.toList.drop k)).map (ts ++ ·)) (fun _ i _ => s.size - (intOf i).toNat)
  case atStart => exact ⟨0, [], by omega, rfl, World.ownsRow_nil _ _ _ _, by simp, Below.refl _ _, by simp⟩
  case round =>
    obtain ⟨k, ts, hk, rfl, hown, htl, hbel, hrr⟩ := hrel
    have HR := hide hrr
    clear hrr
    have hwsz := hbel.size
    by_cases hlt : k < s.size
    · cases hbl : inB blankB s[k]
      · cases h35 : ((s[k].toNat : Int) == 35)
        · have N35 := hide (show ¬ s[k] = 35 from by intro e; rw [e] at h35; simp at h35)
          cases hlet : inB lettersB s[k]
          · cases hdig : inB digmB s[k]
            · cases h34 : ((s[k].toNat : Int) == 34)
              · have N34 := hide (show ¬ s[k] = 34 from by intro e; rw [e] at h34; simp at h34)
                by_cases hd3 : k + 3 ≤ s.size
                · cases hdd : ((s.extract k (k + 3)).toList == [46, 46, 46])
                  · have ND := hide (show ¬ (s.data.toList.drop k).take 3 = [46, 46, 46] from by simpa [take3_eq] using hdd)
                    have HX := hide (lex1_sign s k hlt hlet hdig N34.out ND.out)
                    cases hsig : inB signsB s[k]
                    · have HS := hide (signAt_none _ hsig)
                      go_wp2_with fail
                      refine (among_any s[k] blankB _ (by decide)).mono ?_
                      rintro e w' ⟨rfl, rfl⟩
                      go_wp2_with fail
                      refine (among_any s[k] lettersB _ (by decide)).mono ?_
                      rintro e w' ⟨rfl, rfl⟩
                      go_wp2_with fail
                      refine (among_any s[k] digmB _ (by decide)).mono ?_
                      rintro e w' ⟨rfl, rfl⟩
                      go_wp2_with fail
                      refine (among_any s[k] signsB _ (by decide)).mono ?_
                      rintro e w' ⟨rfl, rfl⟩
                      go_wp2_with fail
                      go_ret2
                      exact ⟨_, _, [], rfl, hbel.alloc (by omega) _, World.ownsRow_nil _ _ _ _, by rw [cut_none s (by rw [HR.out, lex_at_bad s k hlt hbl N35.out (by rw [HX.out, HS.out]; rfl)]; rfl)]; simp⟩
                    · obtain ⟨i, hi1, hi2, hi3, hi4⟩ := signAt_some _ hsig
                      have HS := hide hi1
                      have H4 := hide hi4
                      clear hi1 hi4
                      go_wp2_with fail
                      refine (among_any s[k] blankB _ (by decide)).mono ?_
                      rintro e w' ⟨rfl, rfl⟩
                      go_wp2_with fail
                      refine (among_any s[k] lettersB _ (by decide)).mono ?_
                      rintro e w' ⟨rfl, rfl⟩
                      go_wp2_with fail
                      refine (among_any s[k] digmB _ (by decide)).mono ?_
                      rintro e w' ⟨rfl, rfl⟩
                      go_wp2_with fail
                      refine (among_any s[k] signsB _ (by decide)).mono ?_
                      rintro e w' ⟨rfl, rfl⟩
                      have HN := hide (rel_tok s k 1 ts (⟨i, ⟨#[]⟩, 0⟩ : Tk) HR.out (lex_at_tok s k ((⟨i, ⟨#[]⟩, 0⟩ : Tk), 1) hlt hbl N35.out (by rw [HX.out, HS.out]; rfl)))
                      go_wp2_with (at_builtin; refine wpList_append_own _ rfl _ _ 84 rfl w.heap.size 137 i0 _ 3 32 Tryz.underlying84 hi hz0 hz1 hz2 rfl (by decide) _ _ _ rfl ((hown.alloc _).alloc _) ⟨wr.heap.size + 1, 0, none⟩ 1 1 [.int .i64 4, .string (s.extract k (k + 1)), .int .i64 0] rfl rfl (cells_new' _ _ _ _ (by simp)) (one3 rfl rfl rfl) (by unfold maxLen; omega) (by omega) (by simp; omega) ?_; intro v' w1 hown' hgrow _)
                      have hbel' : Below w.heap.size w w1 := Below.grown ((hbel.alloc (by omega) _).alloc (by simp; omega) _) hgrow (by simp; omega) (fun k hk => (hown.lt k hk).1)
                      have hown2 : w1.ownsRow w.heap.size 137 3 v' (ts ++ [(⟨i, ⟨#[]⟩, 0⟩ : Tk)]).length (refToks (ts ++ [(⟨i, ⟨#[]⟩, 0⟩ : Tk)])) := by
                        rw [refToks_snoc, List.length_append]
                        exact (sign_toks s k i hlt hi2 hi3 H4.out) ▸ hown'
                      go_roundw
                      case rel => exact ⟨k + 1, ts ++ [(⟨i, ⟨#[]⟩, 0⟩ : Tk)], by omega, by go_num, hown2, by simp; omega, hbel', HN.out⟩
                      case measure => simp [intOf]; omega
                  · have HX := hide (lex1_dots s k hlt hlet hdig N34.out (by simpa [take3_eq] using hdd))
                    go_wp2_with fail
                    refine (among_any s[k] blankB _ (by decide)).mono ?_
                    rintro e w' ⟨rfl, rfl⟩
                    go_wp2_with fail
                    refine (among_any s[k] lettersB _ (by decide)).mono ?_
                    rintro e w' ⟨rfl, rfl⟩
                    go_wp2_with fail
                    refine (among_any s[k] digmB _ (by decide)).mono ?_
                    rintro e w' ⟨rfl, rfl⟩
                    have HN := hide (rel_tok s k 3 ts (⟨4, ⟨#[]⟩, 0⟩ : Tk) HR.out (lex_at_tok s k ((⟨4, ⟨#[]⟩, 0⟩ : Tk), 3) hlt hbl N35.out HX.out))
                    go_wp2_with (at_builtin; refine wpList_append_own _ rfl _ _ 84 rfl w.heap.size 137 i0 _ 3 32 Tryz.underlying84 hi hz0 hz1 hz2 rfl (by decide) _ _ _ rfl ((hown.alloc _).alloc _) ⟨wr.heap.size + 1, 0, none⟩ 1 1 [.int .i64 4, .string ⟨#[46, 46, 46]⟩, .int .i64 0] rfl rfl (cells_new' _ _ _ _ (by simp)) (one3 rfl rfl rfl) (by unfold maxLen; omega) (by omega) (by simp; omega) ?_; intro v' w1 hown' hgrow _)
                    have hbel' : Below w.heap.size w w1 := Below.grown ((hbel.alloc (by omega) _).alloc (by simp; omega) _) hgrow (by simp; omega) (fun k hk => (hown.lt k hk).1)
                    have hown2 : w1.ownsRow w.heap.size 137 3 v' (ts ++ [(⟨4, ⟨#[]⟩, 0⟩ : Tk)]).length (refToks (ts ++ [(⟨4, ⟨#[]⟩, 0⟩ : Tk)])) := by
                      rw [refToks_snoc, List.length_append]
                      exact hown'
                    go_roundw
                    case rel => exact ⟨k + 3, ts ++ [(⟨4, ⟨#[]⟩, 0⟩ : Tk)], by omega, by go_num, hown2, by simp; omega, hbel', HN.out⟩
                    case measure => simp [intOf]; omega
                · have ND := hide (show ¬ (s.data.toList.drop k).take 3 = [46, 46, 46] from by intro e; have := congrArg List.length e; simp at this; have h9 : s.data.size = s.size := rfl; omega)
                  have HX := hide (lex1_sign s k hlt hlet hdig N34.out ND.out)
                  cases hsig : inB signsB s[k]
                  · have HS := hide (signAt_none _ hsig)
                    go_wp2_with fail
                    refine (among_any s[k] blankB _ (by decide)).mono ?_
                    rintro e w' ⟨rfl, rfl⟩
                    go_wp2_with fail
                    refine (among_any s[k] lettersB _ (by decide)).mono ?_
                    rintro e w' ⟨rfl, rfl⟩
                    go_wp2_with fail
                    refine (among_any s[k] digmB _ (by decide)).mono ?_
                    rintro e w' ⟨rfl, rfl⟩
                    go_wp2_with fail
                    refine (among_any s[k] signsB _ (by decide)).mono ?_
                    rintro e w' ⟨rfl, rfl⟩
                    go_wp2_with fail
                    go_ret2
                    exact ⟨_, _, [], rfl, hbel.alloc (by omega) _, World.ownsRow_nil _ _ _ _, by rw [cut_none s (by rw [HR.out, lex_at_bad s k hlt hbl N35.out (by rw [HX.out, HS.out]; rfl)]; rfl)]; simp⟩
                  · obtain ⟨i, hi1, hi2, hi3, hi4⟩ := signAt_some _ hsig
                    have HS := hide hi1
                    have H4 := hide hi4
                    clear hi1 hi4
                    go_wp2_with fail
                    refine (among_any s[k] blankB _ (by decide)).mono ?_
                    rintro e w' ⟨rfl, rfl⟩
                    go_wp2_with fail
                    refine (among_any s[k] lettersB _ (by decide)).mono ?_
                    rintro e w' ⟨rfl, rfl⟩
                    go_wp2_with fail
                    refine (among_any s[k] digmB _ (by decide)).mono ?_
                    rintro e w' ⟨rfl, rfl⟩
                    go_wp2_with fail
                    refine (among_any s[k] signsB _ (by decide)).mono ?_
                    rintro e w' ⟨rfl, rfl⟩
                    have HN := hide (rel_tok s k 1 ts (⟨i, ⟨#[]⟩, 0⟩ : Tk) HR.out (lex_at_tok s k ((⟨i, ⟨#[]⟩, 0⟩ : Tk), 1) hlt hbl N35.out (by rw [HX.out, HS.out]; rfl)))
                    go_wp2_with (at_builtin; refine wpList_append_own _ rfl _ _ 84 rfl w.heap.size 137 i0 _ 3 32 Tryz.underlying84 hi hz0 hz1 hz2 rfl (by decide) _ _ _ rfl ((hown.alloc _).alloc _) ⟨wr.heap.size + 1, 0, none⟩ 1 1 [.int .i64 4, .string (s.extract k (k + 1)), .int .i64 0] rfl rfl (cells_new' _ _ _ _ (by simp)) (one3 rfl rfl rfl) (by unfold maxLen; omega) (by omega) (by simp; omega) ?_; intro v' w1 hown' hgrow _)
                    have hbel' : Below w.heap.size w w1 := Below.grown ((hbel.alloc (by omega) _).alloc (by simp; omega) _) hgrow (by simp; omega) (fun k hk => (hown.lt k hk).1)
                    have hown2 : w1.ownsRow w.heap.size 137 3 v' (ts ++ [(⟨i, ⟨#[]⟩, 0⟩ : Tk)]).length (refToks (ts ++ [(⟨i, ⟨#[]⟩, 0⟩ : Tk)])) := by
                      rw [refToks_snoc, List.length_append]
                      exact (sign_toks s k i hlt hi2 hi3 H4.out) ▸ hown'
                    go_roundw
                    case rel => exact ⟨k + 1, ts ++ [(⟨i, ⟨#[]⟩, 0⟩ : Tk)], by omega, by go_num, hown2, by simp; omega, hbel', HN.out⟩
                    case measure => simp [intOf]; omega
              · have HX := hide (lex1_str s k hlt hlet hdig (u8_of_int (by simpa using h34)))
                cases hn : strR (s.data.toList.drop (k + 1)) [] 1 with
                | none =>
                  have HN0 := hide hn
                  clear hn
                  go_wp2_with fail
                  refine (among_any s[k] blankB _ (by decide)).mono ?_
                  rintro e w' ⟨rfl, rfl⟩
                  go_wp2_with fail
                  refine (among_any s[k] lettersB _ (by decide)).mono ?_
                  rintro e w' ⟨rfl, rfl⟩
                  go_wp2_with fail
                  refine (among_any s[k] digmB _ (by decide)).mono ?_
                  rintro e w' ⟨rfl, rfl⟩
                  go_wp2_with fail
                  refine (stringed_none s k _ hlt (by omega) HN0.out).mono ?_
                  rintro e w1 ⟨rfl, hb1⟩
                  have hcx : ∀ j, w1.cell? ⟨wr.heap.size, j, none⟩ = (wr.alloc zeroTok).cell? ⟨wr.heap.size, j, none⟩ := fun j => hb1.cell (by simp)
                  have hf0 : ∀ j, w1.frozen? ⟨wr.heap.size, j, none⟩ = false := fun j => by rw [hb1.frozen (by simp)]; exact frozen_new wr _ j
                  have hc0 : w1.cell? ⟨wr.heap.size, 0, none⟩ = some (.int .i64 0) := by rw [hcx]; simp [zeroTok]
                  have hc1 : w1.cell? ⟨wr.heap.size, 1, none⟩ = some (.string ⟨#[]⟩) := by rw [hcx]; simp [zeroTok]
                  have hc2 : w1.cell? ⟨wr.heap.size, 2, none⟩ = some (.int .i64 0) := by rw [hcx]; simp [zeroTok]
                  clear hcx
                  have hs1 : wr.heap.size + 1 ≤ w1.heap.size := by have := hb1.size; simpa using this
                  have hlow : Below wr.heap.size wr w1 := ((Below.refl _ _).alloc (Nat.le_refl _) _).trans (hb1.mono (by simp))
                  clear hb1
                  have hbel3 : ∀ x y z, Below w.heap.size w (((w1.setCell ⟨wr.heap.size, 0, none⟩ x).setCell ⟨wr.heap.size, 1, none⟩ y).setCell ⟨wr.heap.size, 2, none⟩ z) := fun x y z => (((hbel.trans (hlow.mono hwsz)).setCell hwsz x).setCell hwsz y).setCell hwsz z
                  go_wp2_with fail
                  go_ret2
                  exact ⟨_, _, [], rfl, hbel3 _ _ _, World.ownsRow_nil _ _ _ _, by rw [cut_none s (by rw [HR.out, lex_at_bad s k hlt hbl N35.out (by rw [HX.out, HN0.out]; rfl)]; rfl)]; simp⟩
                | some x =>
                  obtain ⟨l, m⟩ := x
                  have hsz := strR_size _ _ _ _ _ (Nat.le_refl _) hn
                  rw [List.length_drop, Array.length_toList, show s.data.size = s.size from rfl] at hsz
                  have hm0 : 0 < m := by have := hsz.1; simp only at this; omega
                  have hm1 : k + m ≤ s.size := by have := hsz.2; simp only at this; omega
                  have HN0 := hide (show strR (s.data.toList.drop (k + 1)) [] 1 = some ((ofB l).data.toList, m) from by rw [hn]; simp [ofB])
                  have HX2 := hide (show lex1 (s.data.toList.drop k) = some (⟨3, ofB l, 0⟩, m) from by rw [HX.out, hn]; rfl)
                  clear hn hsz
                  generalize ofB l = lb at *
                  have hm2 : ((m : Int) == 0) = false := by simp; omega
                  go_wp2_with fail
                  refine (among_any s[k] blankB _ (by decide)).mono ?_
                  rintro e w' ⟨rfl, rfl⟩
                  go_wp2_with fail
                  refine (among_any s[k] lettersB _ (by decide)).mono ?_
                  rintro e w' ⟨rfl, rfl⟩
                  go_wp2_with fail
                  refine (among_any s[k] digmB _ (by decide)).mono ?_
                  rintro e w' ⟨rfl, rfl⟩
                  go_wp2_with fail
                  refine (stringed_some s k _ lb m hlt (by omega) HN0.out).mono ?_
                  rintro e w1 ⟨rfl, hb1⟩
                  have hcx : ∀ j, w1.cell? ⟨wr.heap.size, j, none⟩ = (wr.alloc zeroTok).cell? ⟨wr.heap.size, j, none⟩ := fun j => hb1.cell (by simp)
                  have hf0 : ∀ j, w1.frozen? ⟨wr.heap.size, j, none⟩ = false := fun j => by rw [hb1.frozen (by simp)]; exact frozen_new wr _ j
                  have hc0 : w1.cell? ⟨wr.heap.size, 0, none⟩ = some (.int .i64 0) := by rw [hcx]; simp [zeroTok]
                  have hc1 : w1.cell? ⟨wr.heap.size, 1, none⟩ = some (.string ⟨#[]⟩) := by rw [hcx]; simp [zeroTok]
                  have hc2 : w1.cell? ⟨wr.heap.size, 2, none⟩ = some (.int .i64 0) := by rw [hcx]; simp [zeroTok]
                  clear hcx
                  have hs1 : wr.heap.size + 1 ≤ w1.heap.size := by have := hb1.size; simpa using this
                  have hlow : Below wr.heap.size wr w1 := ((Below.refl _ _).alloc (Nat.le_refl _) _).trans (hb1.mono (by simp))
                  clear hb1
                  have hbel3 : ∀ x y z, Below w.heap.size w (((w1.setCell ⟨wr.heap.size, 0, none⟩ x).setCell ⟨wr.heap.size, 1, none⟩ y).setCell ⟨wr.heap.size, 2, none⟩ z) := fun x y z => (((hbel.trans (hlow.mono hwsz)).setCell hwsz x).setCell hwsz y).setCell hwsz z
                  have hlow3 : ∀ x y z, Below wr.heap.size wr (((w1.setCell ⟨wr.heap.size, 0, none⟩ x).setCell ⟨wr.heap.size, 1, none⟩ y).setCell ⟨wr.heap.size, 2, none⟩ z) := fun x y z => ((hlow.setCell (Nat.le_refl _) x).setCell (Nat.le_refl _) y).setCell (Nat.le_refl _) z
                  have hown3 : ∀ x y z, (((w1.setCell ⟨wr.heap.size, 0, none⟩ x).setCell ⟨wr.heap.size, 1, none⟩ y).setCell ⟨wr.heap.size, 2, none⟩ z).ownsRow w.heap.size 137 3 _ ts.length (refToks ts) := fun x y z => ownsRow_below hown (hlow3 x y z)
                  clear hlow3
                  have HN := hide (rel_tok s k m ts (⟨3, lb, 0⟩ : Tk) HR.out (lex_at_tok s k ((⟨3, lb, 0⟩ : Tk), m) hlt hbl N35.out HX2.out))
                  go_wp2_with (at_builtin; refine wpList_append_own _ rfl _ _ 84 rfl w.heap.size 137 i0 _ 3 32 Tryz.underlying84 hi hz0 hz1 hz2 rfl (by decide) _ _ _ rfl ((hown3 _ _ _).alloc _) ⟨w1.heap.size, 0, none⟩ 1 1 [.int .i64 3, .string lb, .int .i64 0] rfl rfl (cells_new' _ _ _ _ (by simp)) (one3 rfl rfl rfl) (by unfold maxLen; omega) (by omega) (by simp; omega) ?_; intro v' w1 hown' hgrow _)
                  have hbel' : Below w.heap.size w w1 := Below.grown ((hbel3 _ _ _).alloc (by simp; omega) _) hgrow (by simp; omega) (fun k hk => (hown.lt k hk).1)
                  have hown2 : w1.ownsRow w.heap.size 137 3 v' (ts ++ [(⟨3, lb, 0⟩ : Tk)]).length (refToks (ts ++ [(⟨3, lb, 0⟩ : Tk)])) := by
                    rw [refToks_snoc, List.length_append]
                    exact hown'
                  go_roundw
                  case rel => exact ⟨k + m, ts ++ [(⟨3, lb, 0⟩ : Tk)], by omega, by go_num, hown2, by simp; omega, hbel', HN.out⟩
                  case measure => simp [intOf]; omega
            · have HX := hide (lex1_num s k hlt hlet hdig)
              cases hn : numR (s.data.toList.drop k) with
              | none =>
                have HN0 := hide hn
                clear hn
                go_wp2_with fail
                refine (among_any s[k] blankB _ (by decide)).mono ?_
                rintro e w' ⟨rfl, rfl⟩
                go_wp2_with fail
                refine (among_any s[k] lettersB _ (by decide)).mono ?_
                rintro e w' ⟨rfl, rfl⟩
                go_wp2_with fail
                refine (among_any s[k] digmB _ (by decide)).mono ?_
                rintro e w' ⟨rfl, rfl⟩
                go_wp2_with fail
                refine (numbered_none s k _ hlt (by omega) HN0.out).mono ?_
                rintro e w1 ⟨rfl, hb1⟩
                have hcx : ∀ j, w1.cell? ⟨wr.heap.size, j, none⟩ = (wr.alloc zeroTok).cell? ⟨wr.heap.size, j, none⟩ := fun j => hb1.cell (by simp)
                have hf0 : ∀ j, w1.frozen? ⟨wr.heap.size, j, none⟩ = false := fun j => by rw [hb1.frozen (by simp)]; exact frozen_new wr _ j
                have hc0 : w1.cell? ⟨wr.heap.size, 0, none⟩ = some (.int .i64 0) := by rw [hcx]; simp [zeroTok]
                have hc1 : w1.cell? ⟨wr.heap.size, 1, none⟩ = some (.string ⟨#[]⟩) := by rw [hcx]; simp [zeroTok]
                have hc2 : w1.cell? ⟨wr.heap.size, 2, none⟩ = some (.int .i64 0) := by rw [hcx]; simp [zeroTok]
                clear hcx
                have hs1 : wr.heap.size + 1 ≤ w1.heap.size := by have := hb1.size; simpa using this
                have hlow : Below wr.heap.size wr w1 := ((Below.refl _ _).alloc (Nat.le_refl _) _).trans (hb1.mono (by simp))
                clear hb1
                have hbel3 : ∀ x y z, Below w.heap.size w (((w1.setCell ⟨wr.heap.size, 0, none⟩ x).setCell ⟨wr.heap.size, 1, none⟩ y).setCell ⟨wr.heap.size, 2, none⟩ z) := fun x y z => (((hbel.trans (hlow.mono hwsz)).setCell hwsz x).setCell hwsz y).setCell hwsz z
                go_wp2_with fail
                go_ret2
                exact ⟨_, _, [], rfl, hbel3 _ _ _, World.ownsRow_nil _ _ _ _, by rw [cut_none s (by rw [HR.out, lex_at_bad s k hlt hbl N35.out (by rw [HX.out, HN0.out]; rfl)]; rfl)]; simp⟩
              | some x =>
                obtain ⟨nv, m⟩ := x
                have hsz := numR_size _ _ hn
                rw [List.length_drop, Array.length_toList, show s.data.size = s.size from rfl] at hsz
                have hm0 : 0 < m := hsz.1
                have hm1 : k + m ≤ s.size := by have := hsz.2; simp only at this; omega
                have HN0 := hide hn
                clear hn hsz
                have hm2 : ((m : Int) == 0) = false := by simp; omega
                go_wp2_with fail
                refine (among_any s[k] blankB _ (by decide)).mono ?_
                rintro e w' ⟨rfl, rfl⟩
                go_wp2_with fail
                refine (among_any s[k] lettersB _ (by decide)).mono ?_
                rintro e w' ⟨rfl, rfl⟩
                go_wp2_with fail
                refine (among_any s[k] digmB _ (by decide)).mono ?_
                rintro e w' ⟨rfl, rfl⟩
                go_wp2_with fail
                refine (numbered_some s k _ nv m hlt (by omega) HN0.out).mono ?_
                rintro e w1 ⟨rfl, hb1⟩
                have hcx : ∀ j, w1.cell? ⟨wr.heap.size, j, none⟩ = (wr.alloc zeroTok).cell? ⟨wr.heap.size, j, none⟩ := fun j => hb1.cell (by simp)
                have hf0 : ∀ j, w1.frozen? ⟨wr.heap.size, j, none⟩ = false := fun j => by rw [hb1.frozen (by simp)]; exact frozen_new wr _ j
                have hc0 : w1.cell? ⟨wr.heap.size, 0, none⟩ = some (.int .i64 0) := by rw [hcx]; simp [zeroTok]
                have hc1 : w1.cell? ⟨wr.heap.size, 1, none⟩ = some (.string ⟨#[]⟩) := by rw [hcx]; simp [zeroTok]
                have hc2 : w1.cell? ⟨wr.heap.size, 2, none⟩ = some (.int .i64 0) := by rw [hcx]; simp [zeroTok]
                clear hcx
                have hs1 : wr.heap.size + 1 ≤ w1.heap.size := by have := hb1.size; simpa using this
                have hlow : Below wr.heap.size wr w1 := ((Below.refl _ _).alloc (Nat.le_refl _) _).trans (hb1.mono (by simp))
                clear hb1
                have hbel3 : ∀ x y z, Below w.heap.size w (((w1.setCell ⟨wr.heap.size, 0, none⟩ x).setCell ⟨wr.heap.size, 1, none⟩ y).setCell ⟨wr.heap.size, 2, none⟩ z) := fun x y z => (((hbel.trans (hlow.mono hwsz)).setCell hwsz x).setCell hwsz y).setCell hwsz z
                have hlow3 : ∀ x y z, Below wr.heap.size wr (((w1.setCell ⟨wr.heap.size, 0, none⟩ x).setCell ⟨wr.heap.size, 1, none⟩ y).setCell ⟨wr.heap.size, 2, none⟩ z) := fun x y z => ((hlow.setCell (Nat.le_refl _) x).setCell (Nat.le_refl _) y).setCell (Nat.le_refl _) z
                have hown3 : ∀ x y z, (((w1.setCell ⟨wr.heap.size, 0, none⟩ x).setCell ⟨wr.heap.size, 1, none⟩ y).setCell ⟨wr.heap.size, 2, none⟩ z).ownsRow w.heap.size 137 3 _ ts.length (refToks ts) := fun x y z => ownsRow_below hown (hlow3 x y z)
                clear hlow3
                have HN := hide (rel_tok s k m ts (⟨2, ⟨#[]⟩, nv⟩ : Tk) HR.out (lex_at_tok s k ((⟨2, ⟨#[]⟩, nv⟩ : Tk), m) hlt hbl N35.out (by rw [HX.out, HN0.out]; rfl)))
                go_wp2_with (at_builtin; refine wpList_append_own _ rfl _ _ 84 rfl w.heap.size 137 i0 _ 3 32 Tryz.underlying84 hi hz0 hz1 hz2 rfl (by decide) _ _ _ rfl ((hown3 _ _ _).alloc _) ⟨w1.heap.size, 0, none⟩ 1 1 [.int .i64 2, .string ⟨#[]⟩, .int .i64 nv] rfl rfl (cells_new' _ _ _ _ (by simp)) (one3 rfl rfl rfl) (by unfold maxLen; omega) (by omega) (by simp; omega) ?_; intro v' w1 hown' hgrow _)
                have hbel' : Below w.heap.size w w1 := Below.grown ((hbel3 _ _ _).alloc (by simp; omega) _) hgrow (by simp; omega) (fun k hk => (hown.lt k hk).1)
                have hown2 : w1.ownsRow w.heap.size 137 3 v' (ts ++ [(⟨2, ⟨#[]⟩, nv⟩ : Tk)]).length (refToks (ts ++ [(⟨2, ⟨#[]⟩, nv⟩ : Tk)])) := by
                  rw [refToks_snoc, List.length_append]
                  exact hown'
                go_roundw
                case rel => exact ⟨k + m, ts ++ [(⟨2, ⟨#[]⟩, nv⟩ : Tk)], by omega, by go_num, hown2, by simp; omega, hbel', HN.out⟩
                case measure => simp [intOf]; omega
          · have hwl := runLen_le (s.data.toList.drop k) wordB
            have hx := lex1_word s k hlt hlet
            have hx2 := (lex1_size _ _ hx)
            rw [List.length_drop, Array.length_toList, show s.data.size = s.size from rfl] at hwl
            generalize hm : runLen (s.data.toList.drop k) wordB = m at *
            have HM := hide hm
            have HX := hide hx
            have hm0 : 0 < m := hx2.1
            clear hm hx hx2
            have hm1 : ((m : Int) == 0) = false := by simp; omega
            go_wp2_with fail
            refine (among_any s[k] blankB _ (by decide)).mono ?_
            rintro e w' ⟨rfl, rfl⟩
            go_wp2_with fail
            refine (among_any s[k] lettersB _ (by decide)).mono ?_
            rintro e w' ⟨rfl, rfl⟩
            go_wp2_with fail
            refine (run_at s wordB k _ _ rfl (by omega) (by omega) (by decide)).mono ?_
            rintro e w' ⟨rfl, rfl⟩
            rw [HM.out]
            have HN := hide (rel_tok s k m ts (⟨1, s.extract k (k + m), 0⟩ : Tk) HR.out (lex_at_tok s k ((⟨1, s.extract k (k + m), 0⟩ : Tk), m) hlt hbl N35.out HX.out))
            go_wp2_with (at_builtin; refine wpList_append_own _ rfl _ _ 84 rfl w.heap.size 137 i0 _ 3 32 Tryz.underlying84 hi hz0 hz1 hz2 rfl (by decide) _ _ _ rfl ((hown.alloc _).alloc _) ⟨wr.heap.size + 1, 0, none⟩ 1 1 [.int .i64 1, .string (s.extract k (k + m)), .int .i64 0] rfl rfl (cells_new' _ _ _ _ (by simp)) (one3 rfl rfl rfl) (by unfold maxLen; omega) (by omega) (by simp; omega) ?_; intro v' w1 hown' hgrow _)
            have hbel' : Below w.heap.size w w1 := Below.grown ((hbel.alloc (by omega) _).alloc (by simp; omega) _) hgrow (by simp; omega) (fun k hk => (hown.lt k hk).1)
            have hown2 : w1.ownsRow w.heap.size 137 3 v' (ts ++ [(⟨1, s.extract k (k + m), 0⟩ : Tk)]).length (refToks (ts ++ [(⟨1, s.extract k (k + m), 0⟩ : Tk)])) := by
              rw [refToks_snoc, List.length_append]
              exact hown'
            go_roundw
            case rel => exact ⟨k + m, ts ++ [(⟨1, s.extract k (k + m), 0⟩ : Tk)], by omega, by go_num, hown2, by simp; omega, hbel', HN.out⟩
            case measure => simp [intOf]; omega
        · have E35 := hide (show s[k] = 35 from u8_of_int (by simpa using h35))
          go_wp2_with fail
          refine (among_any s[k] blankB _ (by decide)).mono ?_
          rintro e w' ⟨rfl, rfl⟩
          go_wp2_with fail
          go_loop [5] (fun i => ∃ j : Nat, k ≤ j ∧ j ≤ s.size ∧ i = .int .i64 j ∧ ∀ i, k ≤ i → (h : i < s.size) → i < j → s[i] ≠ 10) (fun i => s.size - (intOf i).toNat)
          case atStart => exact ⟨k, Nat.le_refl _, by omega, rfl, fun i h1 _ h2 => absurd h1 (by omega)⟩
          case round =>
            obtain ⟨j, hj1, hj2, rfl, hjj⟩ := hrel
            have HJ := hide hjj
            clear hjj
            by_cases hlj : j < s.size
            · cases h10 : ((s[j].toNat : Int) != 10)
              · have HH := hide (lex_at_hash s k j hlt E35.out hj1 hj2 HJ.out (fun _ => u8_of_int (by simpa using h10)))
                have hkj : k < j := HH.out.1
                go_wp2_with fail
                go_roundw
                case rel => exact ⟨j, ts, by omega, rfl, hown.alloc _, by omega, hbel.alloc (by omega) _, by rw [HR.out, HH.out.2]⟩
                case measure => simp [intOf]; omega
              · have N10 := hide (show s[j] ≠ 10 from by intro e; rw [e] at h10; simp at h10)
                go_wp2_with fail
                go_round
                case rel => exact ⟨j + 1, by omega, by omega, by go_num, fun i h1 h2 h3 => by by_cases e : i = j; (subst e; exact N10.out); exact HJ.out i h1 h2 (by omega)⟩
                case measure => simp [intOf]; omega
            · have HH := hide (lex_at_hash s k j hlt E35.out hj1 hj2 HJ.out (fun h => absurd h hlj))
              have hkj : k < j := HH.out.1
              go_wp2_with fail
              go_roundw
              case rel => exact ⟨j, ts, by omega, rfl, hown.alloc _, by omega, hbel.alloc (by omega) _, by rw [HR.out, HH.out.2]⟩
              case measure => simp [intOf]; omega
      · have HB := hide (lex_at_blank s k hlt hbl)
        go_wp2_with fail
        refine (among_any s[k] blankB _ (by decide)).mono ?_
        rintro e w' ⟨rfl, rfl⟩
        go_wp2_with fail
        go_roundw
        case rel => exact ⟨k + 1, ts, by omega, by go_num, hown.alloc _, by omega, hbel.alloc (by omega) _, by rw [HR.out, HB.out]⟩
        case measure => simp [intOf]; omega
    · obtain ⟨a0, cap, hv⟩ := own_slice hown
      subst hv
      have HE := hide (show lex s.data.toList = some ts from by rw [HR.out, lex_at_end s k (by omega)]; simp)
      go_wp2_with fail
      go_ret2
      exact ⟨_, _, ts, rfl, hbel, hown, cut_some s ts hbig HE.out⟩

end Go.Proofs.YtpggfgjongkihaaGreat
namespace Go.Proofs.YtpggfgjongkihaaGreat
open Go.RowKit
abbrev St := Option (List Tk)
def zTk : Tk := ⟨0, ⟨#[]⟩, 0⟩
def hd : St → Tk
  | some (t :: _) => t
  | _ => zTk
def tl : St → St
  | some (_ :: l) => some l
  | s => s
def ln : St → Nat
  | none => 0
  | some l => l.length + 1
def isK (s : St) (k : Nat) : Bool := (hd s).k == k
def isW (s : St) (x : ByteArray) : Bool := (hd s).k == 1 && decide ((hd s).s = x)
def nm (s : St) : ByteArray := if isK s 1 = true then (hd s).s else ⟨#[]⟩
def nmT (s : St) : St := if isK s 1 = true then tl s else none
def mayT (s : St) (b : Bool) : St := if b = true then tl s else s
def mustT (s : St) (b : Bool) : St := if b = true then tl s else none
def okT (t : Tk) : Prop := 1 ≤ t.k ∧ t.k ≤ 17 ∧ t.s.size ≤ 4000 ∧ (t.k = 1 → 0 < t.s.size)
theorem isK_none (k : Nat) (h : k ≠ 0) : isK none k = false := by simp [isK, hd, zTk]; omega
theorem isK_end (k : Nat) (h : k ≠ 0) : isK (some []) k = false := by simp [isK, hd, zTk]; omega
theorem isW_none (x : ByteArray) : isW none x = false := by simp [isW, hd, zTk]
theorem ln_tl (s : St) (h : isK s 0 = false) (h2 : s ≠ none) : ln (tl s) + 1 = ln s := by
  match s with
  | none => exact absurd rfl h2
  | some [] => simp [isK, hd, zTk] at h
  | some (t :: l) => rfl
theorem ln_tl_le (s : St) : ln (tl s) ≤ ln s := by
  match s with
  | none => exact Nat.le_refl _
  | some [] => exact Nat.le_refl _
  | some (t :: l) => simp [tl, ln]
theorem ln_tl_lt (s : St) (k : Nat) (hk : k ≠ 0) (h : isK s k = true) : ln (tl s) < ln s := by
  match s with
  | none => rw [isK_none k hk] at h; cases h
  | some [] => rw [isK_end k hk] at h; cases h
  | some (t :: l) => simp [tl, ln]
/-- only block b may have turned; blocks may have come -/
structure Keep (b : Nat) (w w' : World) : Prop where
  os : w'.os = w.os
  tape : w'.tape = w.tape
  output : w'.output = w.output
  size : w.heap.size ≤ w'.heap.size
  block : ∀ k, k < w.heap.size → k ≠ b → w'.heap[k]? = w.heap[k]?
theorem Keep.refl (b : Nat) (w : World) : Keep b w w := ⟨rfl, rfl, rfl, Nat.le_refl _, fun _ _ _ => rfl⟩
theorem Keep.trans {b : Nat} {x y z : World} (h : Keep b x y) (k : Keep b y z) : Keep b x z :=
  ⟨k.os.trans h.os, k.tape.trans h.tape, k.output.trans h.output, Nat.le_trans h.size k.size, fun i hi hb => (k.block i (Nat.lt_of_lt_of_le hi h.size) hb).trans (h.block i hi hb)⟩
theorem Keep.of_below {b : Nat} {w w' : World} (h : Below w.heap.size w w') : Keep b w w' := ⟨h.os, h.tape, h.output, h.size, fun k hk _ => h.block k hk⟩
theorem Keep.alloc {b : Nat} {x y : World} (h : Keep b x y) (o : Obj) : Keep b x (y.alloc o) := h.trans (Keep.of_below ((Below.refl _ _).alloc (Nat.le_refl _) _))
theorem Keep.setCell {b : Nat} {x y : World} (h : Keep b x y) (i : Nat) (v : Value) : Keep b x (y.setCell ⟨b, i, none⟩ v) :=
  h.trans ⟨rfl, rfl, rfl, by simp [World.setCell], fun k _ hb => Below.heap_setCell _ _ _ _ hb⟩
theorem Keep.setNew {b : Nat} {x y : World} (h : Keep b x y) (a : Addr) (ha : x.heap.size ≤ a.block) (v : Value) : Keep b x (y.setCell a v) :=
  ⟨h.os, h.tape, h.output, Nat.le_trans h.size (by simp [World.setCell]), fun k hk hb => by rw [Below.heap_setCell _ _ _ _ (by omega)]; exact h.block k hk hb⟩
theorem Keep.drew {b : Nat} {x y : World} (h : Keep b x y) : Keep b x y.drew := ⟨h.os, h.tape, h.output, h.size, h.block⟩
theorem Keep.grown {b : Nat} {x y z : World} {row : Option Nat} (h : Keep b x y) (hg : y.grownBy z row) (hr : ∀ k, row = some k → x.heap.size ≤ k) : Keep b x z :=
  ⟨hg.os.trans h.os, hg.tape.trans h.tape, hg.output.trans h.output, Nat.le_trans h.size hg.size, fun k hk hb => (hg.block k (Nat.lt_of_lt_of_le hk h.size) (fun e => by have := hr k e.symm; omega)).trans (h.block k hk hb)⟩
/-- from a bound below which nothing else was there on, nothing old has turned -/
theorem Keep.below {b B : Nat} {x y : World} (h : Keep b x y) (hb : B ≤ b) (hB : B ≤ x.heap.size) : Below B x y := ⟨h.os, h.tape, h.output, h.size, fun k hk => h.block k (by omega) (by omega)⟩
theorem lt_of_block {w : World} {b : Nat} {o : Obj} (h : w.heap[b]? = some o) : b < w.heap.size := by
  rcases Nat.lt_or_ge b w.heap.size with a | a
  · exact a
  · rw [Array.getElem?_eq_none a] at h; cases h
theorem setCell_block {w : World} {b : Nat} {cs : Array Value} {T : TypeId} {fr : Nat × Nat} (h : w.heap[b]? = some (.cells cs T fr)) (i : Nat) (v : Value) : (w.setCell ⟨b, i, none⟩ v).heap[b]? = some (.cells (cs.setIfInBounds i v) T fr) := by
  simp only [World.setCell, Array.getElem?_modify, if_true, h]
  rfl
theorem cell_of_block {w : World} {b : Nat} {cs : Array Value} {T : TypeId} {fr : Nat × Nat} (h : w.heap[b]? = some (.cells cs T fr)) (i : Nat) : w.cell? ⟨b, i, none⟩ = cs[i]? := by
  unfold World.cell?; rw [h]; simp
theorem frozen_of_block {w : World} {b : Nat} {cs : Array Value} {T : TypeId} (h : w.heap[b]? = some (.cells cs T (0, 0))) (i : Nat) : w.frozen? ⟨b, i, none⟩ = false := by
  unfold World.frozen?; rw [h]; simp
/-- a row that is owned lies in blocks of its own type: it stays where only blocks of other types turn -/
theorem ownsRow_keep {w w' : World} {b base : Nat} {e : TypeId} {size : Nat} {v : Value} {n : Nat} {xs : List Value} {cs : Array Value} {T : TypeId} {fr : Nat × Nat} (h : w.ownsRow base e size v n xs) (hk : Keep b w w') (hb : w.heap[b]? = some (.cells cs T fr)) (hT : T ≠ e) : w'.ownsRow base e size v n xs := by
  refine ⟨h.1, ?_⟩
  rcases h.2 with x | ⟨g, cap, cur, hv, hg, hh, r⟩
  · exact Or.inl x
  · refine Or.inr ⟨g, cap, cur, hv, hg, ?_, r⟩
    rw [hk.block g (lt_of_block hh) (fun e => by subst e; rw [hb] at hh; cases hh; exact hT rfl)]; exact hh
/-- the reference's reader at block b: its list, the tokens, and where it stands -/
structure RS (w : World) (b : Nat) (L : Value) (ts : List Tk) (s : St) : Prop where
  st : ∃ at_ bad, w.heap[b]? = some (.cells #[L, .int .i64 (at_ : Nat), .bool bad, .int .i64 0] 89 (0, 0)) ∧ at_ ≤ ts.length ∧ s = (if bad = true then none else some (ts.drop at_))
  row : w.ownsRow 0 137 3 L ts.length (refToks ts)
  len : ts.length ≤ 800
  wf : ∀ t ∈ ts, okT t
theorem RS.lt {w : World} {b : Nat} {L : Value} {ts : List Tk} {s : St} (h : RS w b L ts s) : b < w.heap.size := by
  obtain ⟨a, bad, h1, _⟩ := h.st
  exact lt_of_block h1
theorem RS.below {w w' : World} {b : Nat} {L : Value} {ts : List Tk} {s : St} (h : RS w b L ts s) (hb : Below w.heap.size w w') : RS w' b L ts s := by
  obtain ⟨a, bad, h1, h2, h3⟩ := h.st
  exact ⟨⟨a, bad, by rw [hb.block b (lt_of_block h1)]; exact h1, h2, h3⟩, ownsRow_below h.row hb, h.len, h.wf⟩
theorem RS.move {w X Y : World} {b : Nat} {L : Value} {ts : List Tk} {s s0 : St} (hX : RS X b L ts s) (h0 : RS w b L ts s0) (hk : Keep b w Y) (hb : Y.heap[b]? = X.heap[b]?) : RS Y b L ts s := by
  obtain ⟨a, bad, h1, h2, h3⟩ := hX.st
  obtain ⟨a', bad', h1', _⟩ := h0.st
  exact ⟨⟨a, bad, by rw [hb]; exact h1, h2, h3⟩, ownsRow_keep h0.row hk h1' (by decide), h0.len, h0.wf⟩
theorem RS.hdok {w : World} {b : Nat} {L : Value} {ts : List Tk} {s : St} (h : RS w b L ts s) : (hd s = zTk) ∨ okT (hd s) := by
  obtain ⟨a, bad, h1, h2, h3⟩ := h.st
  cases bad with
  | true => rw [h3]; exact Or.inl rfl
  | false =>
    rw [h3]
    simp only [Bool.false_eq_true, if_false]
    cases hx : ts.drop a with
    | nil => exact Or.inl rfl
    | cons t l => exact Or.inr (h.wf t (List.mem_of_mem_drop (i := a) (by rw [hx]; simp)))
theorem RS.lnle {w : World} {b : Nat} {L : Value} {ts : List Tk} {s : St} (h : RS w b L ts s) : ln s ≤ 801 := by
  obtain ⟨a, bad, h1, h2, h3⟩ := h.st
  have := h.len
  rw [h3]
  cases bad <;> simp [ln] <;> omega
theorem RS.badc {w : World} {b : Nat} {L : Value} {ts : List Tk} {s : St} (h : RS w b L ts s) : w.cell? ⟨b, 2, none⟩ = some (.bool s.isNone) := by
  obtain ⟨a, bad, h1, h2, h3⟩ := h.st
  rw [cell_of_block h1 2, h3]
  cases bad <;> rfl
theorem set3_other (X : World) (N b : Nat) (h : b ≠ N) (x y z : Value) : (((X.setCell ⟨N, 0, none⟩ x).setCell ⟨N, 1, none⟩ y).setCell ⟨N, 2, none⟩ z).heap[b]? = X.heap[b]? := by
  rw [Below.heap_setCell _ _ _ _ h, Below.heap_setCell _ _ _ _ h, Below.heap_setCell _ _ _ _ h]
theorem alloc_other (X : World) (o : Obj) (b : Nat) (h : b < X.heap.size) : (X.alloc o).heap[b]? = X.heap[b]? := Below.heap_alloc _ _ _ h
end Go.Proofs.YtpggfgjongkihaaGreat
namespace Go.Proofs.YtpggfgjongkihaaGreat
open Go.RowKit
theorem strR_len : ∀ (n : Nat) (l acc : List UInt8) (m : Nat) (x : List UInt8 × Nat), l.length ≤ n → strR l acc m = some x → x.1.length ≤ acc.length + l.length := by
  intro n
  induction n with
  | zero => intro l acc m x hl h; have : l = [] := List.eq_nil_of_length_eq_zero (by omega); subst this; cases h
  | succ n ih =>
    intro l acc m x hl h
    match l with
    | [] => cases h
    | c :: r =>
      rw [strR_cons] at h
      simp only [List.length_cons] at hl ⊢
      by_cases h1 : c = 34
      · rw [if_pos h1] at h; cases h; simp only; omega
      rw [if_neg h1] at h
      by_cases h2 : c < 32 ∨ 126 < c
      · rw [if_pos h2] at h; cases h
      rw [if_neg h2] at h
      by_cases h3 : c = 92
      · rw [if_pos h3] at h
        match r with
        | [] => cases h
        | d :: r' =>
          cases he : escR d with
          | none => simp [he] at h
          | some e =>
            simp only [he] at h; simp only [List.length_cons] at hl ⊢
            have := ih r' _ _ x (by omega) h
            simp only [List.length_append, List.length_cons, List.length_nil] at this
            omega
      · rw [if_neg h3] at h
        have := ih r _ _ x (by omega) h
        simp only [List.length_append, List.length_cons, List.length_nil] at this
        omega
theorem lex1_ok (l : List UInt8) (x : Tk × Nat) (hl : l.length ≤ 4000) (h : lex1 l = some x) : okT x.1 := by
  have hs := lex1_size l x h
  unfold lex1 at h
  split at h
  · cases h
  · rename_i c r
    by_cases h1 : inB lettersB c = true
    · rw [if_pos h1] at h; cases h
      have hz : (ofB ((c :: r).take (runLen (c :: r) wordB))).size = runLen (c :: r) wordB := by
        show ((c :: r).take (runLen (c :: r) wordB)).toArray.size = _
        rw [List.size_toArray, List.length_take]
        have := runLen_le (c :: r) wordB
        omega
      have := hs.1
      have := hs.2
      simp only at *
      exact ⟨Nat.le_refl 1, show 1 ≤ 17 by decide, by rw [hz]; omega, fun _ => by rw [hz]; omega⟩
    rw [if_neg h1] at h
    by_cases h2 : inB digmB c = true
    · rw [if_pos h2] at h
      cases hn : numR (c :: r) with
      | none => simp [hn] at h
      | some y => simp only [hn, Option.map_some, Option.some.injEq] at h; subst h; exact ⟨show 1 ≤ 2 by decide, show 2 ≤ 17 by decide, show (⟨#[]⟩ : ByteArray).size ≤ 4000 by decide, fun e => by cases e⟩
    rw [if_neg h2] at h
    by_cases h3 : c = 34
    · rw [if_pos h3] at h
      cases hn : strR r [] 1 with
      | none => simp [hn] at h
      | some y =>
        simp only [hn, Option.map_some, Option.some.injEq] at h; subst h
        have := strR_len _ _ _ _ _ (Nat.le_refl _) hn
        simp only [List.length_cons, List.length_nil] at this hl
        refine ⟨by simp, by simp, ?_, fun e => by cases e⟩
        show y.1.toArray.size ≤ 4000
        rw [List.size_toArray]; omega
    rw [if_neg h3] at h
    by_cases h4 : (c :: r).take 3 = [46, 46, 46]
    · rw [if_pos h4] at h; cases h; exact ⟨by decide, by decide, by decide, fun e => by cases e⟩
    rw [if_neg h4] at h
    cases hn : signAt signsB.data.toList c 5 with
    | none => simp [hn] at h
    | some i =>
      simp only [hn, Option.map_some, Option.some.injEq] at h; subst h
      cases hsg : inB signsB c with
      | false => rw [signAt_none c hsg] at hn; cases hn
      | true =>
        obtain ⟨j, e1, e2, e3, _⟩ := signAt_some c hsg
        rw [e1] at hn; cases hn
        exact ⟨by simp only; omega, e3, show (⟨#[]⟩ : ByteArray).size ≤ 4000 by decide, fun e => by simp only at e; omega⟩
theorem lexF_ok : ∀ (f : Nat) (l : List UInt8) (ts : List Tk), l.length ≤ 4000 → lexF f l = some ts → ∀ t ∈ ts, okT t := by
  intro f
  induction f with
  | zero => intro l ts _ h; cases h
  | succ f ih =>
    intro l ts hl h
    match l with
    | [] => cases h; intro t ht; cases ht
    | c :: r =>
      simp only [lexF] at h
      simp only [List.length_cons] at hl
      by_cases h1 : inB blankB c = true
      · rw [if_pos h1] at h; exact ih r ts (by omega) h
      rw [if_neg h1] at h
      by_cases h2 : c = 35
      · rw [if_pos h2] at h
        have := dropWhile_le (· != 10) r
        exact ih _ ts (by omega) h
      rw [if_neg h2] at h
      cases hx : lex1 (c :: r) with
      | none => rw [hx] at h; cases h
      | some x =>
        rw [hx] at h
        simp only at h
        cases hy : lexF f ((c :: r).drop x.2) with
        | none => rw [hy] at h; cases h
        | some ts' =>
          rw [hy] at h
          simp only [Option.map_some, Option.some.injEq] at h
          subst h
          intro t ht
          rcases List.mem_cons.1 ht with e | e
          · rw [e]; exact lex1_ok _ _ (by simpa using hl) hx
          · exact ih _ ts' (by simp; omega) hy t e
theorem cutS_ok (s : ByteArray) (ts : List Tk) (h : cutS s = some ts) : (∀ t ∈ ts, okT t) ∧ ts.length ≤ 800 := by
  unfold cutS at h
  by_cases h0 : 4000 < s.size
  · rw [if_pos h0] at h; cases h
  rw [if_neg h0] at h
  cases hx : lex s.data.toList with
  | none => rw [hx] at h; cases h
  | some l =>
    rw [hx] at h
    simp only at h
    by_cases h1 : l.length ≤ 800
    · rw [if_pos h1] at h; cases h
      exact ⟨lexF_ok _ _ _ (by show s.size ≤ 4000; omega) hx, h1⟩
    · rw [if_neg h1] at h; cases h
end Go.Proofs.YtpggfgjongkihaaGreat
