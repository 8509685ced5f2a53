/- No name of a schema that is read is too long. The two sides as plain functions: lists without doubles; types. The two sides as plain functions: fields. The two sides as plain functions: lists of fields, roles. The two sides as plain functions: members of unions, what an object implements. The program's chain of rules, flat: parts with 'and' or 'or' between them. A rule's end is the same for both readers. An object is read alike by both readers (its rule's leaves aside). A rule's leaves, scanned over its tokens. A unit's and a rule's leaves, scanned over the tokens that it eats. An object's rule, read alike: the leaves. -/
import Derived.Test.YtpggfgjongkihaaGreatM25
namespace Go.Proofs.YtpggfgjongkihaaGreat
open Go.RowKit
def wfS (s : St) : Prop := ∀ t ∈ s.getD [], okT t
/-- what is left of a state whose tokens are well formed -/
def Wf (b a : St) : Prop := wfS a → wfS b
theorem Wf.refl (a : St) : Wf a a := fun h => h
theorem Wf.trans {a b c : St} (h : Wf a b) (k : Wf b c) : Wf a c := fun x => h (k x)
theorem Wf.none (a : St) : Wf none a := fun _ t ht => by simp at ht
theorem wf_tl (s : St) : Wf (tl s) s := by
  intro h t ht
  match s, h, ht with
  | Option.none, h, ht => exact h t ht
  | some [], h, ht => exact h t ht
  | some (x :: l), h, ht => exact h t (List.mem_cons_of_mem _ ht)
theorem wf_nmT (s : St) : Wf (nmT s) s := by
  unfold nmT; split
  · exact wf_tl s
  · exact Wf.none _
theorem wf_mustT (s : St) (b : Bool) : Wf (mustT s b) s := by
  unfold mustT; split
  · exact wf_tl s
  · exact Wf.none _
theorem wf_mayT (s : St) (b : Bool) : Wf (mayT s b) s := by
  unfold mayT; split
  · exact wf_tl s
  · exact Wf.refl _
theorem nmS_size (s : St) (h : wfS s) : (nm s).size ≤ 4000 := by
  unfold nm
  split
  · match s, h with
    | Option.none, _ => decide
    | some [], _ => decide
    | some (t :: l), h => exact (h t (by simp)).2.2.1
  · decide
theorem wf_pMarkRole (r : ByteArray) (s : St) : Wf (pMarkRole r s).2 s := by
  unfold pMarkRole
  refine Wf.trans (wf_mustT _ _) (Wf.trans (wf_nmT _) (Wf.trans (wf_mustT _ _) ?_))
  split
  · exact Wf.refl _
  · exact Wf.none _
theorem wf_pMark (a h : ByteArray) (s : St) : Wf (pMark a h s).2 s := by
  unfold pMark
  split
  · exact Wf.trans (wf_pMarkRole _ _) (wf_nmT _)
  · split
    · exact Wf.trans (wf_pMarkRole _ _) (wf_nmT _)
    · exact Wf.none _
theorem wf_pType : ∀ (f : Nat) (s : St), Wf (pType f s).2 s
  | 0, s => Wf.refl _
  | f + 1, s => by
    rw [pType]
    split
    · exact Wf.trans (wf_mayT _ _) (Wf.trans (wf_mustT _ _) (Wf.trans (wf_pType f (tl s)) (wf_tl s)))
    · exact Wf.trans (wf_mayT _ _) (wf_nmT s)
theorem wf_pArg (s : St) : Wf (pArg s).2 s := by
  unfold pArg
  refine Wf.trans (wf_mustT _ _) (Wf.trans (wf_mustT _ _) ?_)
  unfold pArgS
  split
  · exact wf_nmT s
  · split
    · exact wf_nmT s
    · exact Wf.none _
theorem wf_pFArg (s : St) : Wf (pFArg s).2 s := by
  unfold pFArg
  split
  · exact Wf.trans (wf_mustT _ _) (Wf.trans (wf_pArg _) (wf_tl s))
  · exact Wf.refl _
theorem wf_pMarks : ∀ (f : Nat) (s : St) (a h : ByteArray), Wf (pMarks f s a h).2 s
  | 0, s, a, h => Wf.refl _
  | f + 1, s, a, h => by
    rw [pMarks]
    split
    · exact Wf.trans (wf_pMarks f _ _ _) (Wf.trans (wf_pMark _ _ _) (wf_tl s))
    · exact Wf.refl _
theorem wf_pField_le (s : St) : Wf (pField s).2 (nmT s) := by
  unfold pField
  exact Wf.trans (wf_pMarks _ _ _ _) (Wf.trans (wf_pType _ _) (by unfold pTyS; exact Wf.trans (wf_mustT _ _) (wf_pFArg _)))
theorem wf_pFieldsF : ∀ (f : Nat) (s : St), Wf (pFieldsF f s).2 s
  | 0, s => Wf.refl _
  | f + 1, s => by
    rw [pFieldsF]
    split
    · exact Wf.trans (wf_pFieldsF f _) (Wf.trans (wf_pField_le s) (wf_nmT s))
    · exact Wf.refl _
theorem wf_pFields (s : St) : Wf (pFields s).2 s := by
  unfold pFields
  exact Wf.trans (wf_mustT _ _) (Wf.trans (wf_pFieldsF _ _) (Wf.trans (wf_pField_le _) (Wf.trans (wf_nmT _) (wf_mustT _ _))))
theorem wf_chainF (word : ByteArray) (part : St → List Leaf × St) (hp : ∀ s, Wf (part s).2 s) : ∀ (f : Nat) (acc : List (List Leaf)) (s : St), Wf (chainF word part f acc s).2 s
  | 0, _, _ => Wf.refl _
  | f + 1, acc, s => by
    rw [chainF]
    split
    · exact Wf.trans (wf_chainF word part hp f _ _) (Wf.trans (hp _) (wf_tl s))
    · exact Wf.refl _
theorem wf_chain (word : ByteArray) (part : St → List Leaf × St) (hp : ∀ s, Wf (part s).2 s) (s : St) : Wf (chain word part s).2 s :=
  Wf.trans (wf_chainF word part hp _ _ _) (hp s)
theorem wf_pValue (s : St) : Wf (pValue s) s := by
  unfold pValue
  split
  · exact wf_tl s
  · unfold pVal
    split
    · exact wf_tl s
    · split
      · exact wf_tl s
      · split
        · unfold wordS
          split
          · exact wf_tl s
          · split
            · exact wf_tl s
            · split
              · exact wf_tl s
              · exact Wf.none _
        · exact Wf.none _
theorem wf_pUnit : ∀ (f : Nat) (s : St), Wf (pUnit f s).2 s
  | 0, s => Wf.refl _
  | f + 1, s => by
    rw [pUnit_succ]
    split
    · exact Wf.trans (wf_mustT _ _) (Wf.trans (wf_chain _ _ (wf_chain _ _ (wf_pUnit f)) _) (wf_tl s))
    · split
      · exact Wf.trans (wf_pUnit f _) (wf_nmT s)
      · split
        · exact wf_nmT s
        · split
          · exact Wf.trans (wf_nmT _) (wf_nmT s)
          · exact Wf.trans (wf_pValue _) (Wf.trans (wf_mustT _ _) (wf_nmT s))
theorem wf_pIncF : ∀ (f : Nat) (s : St), Wf (pIncF f s).2 s
  | 0, s => Wf.refl _
  | f + 1, s => by
    rw [pIncF]
    split
    · exact Wf.trans (wf_pIncF f _) (wf_nmT s)
    · exact Wf.refl _
theorem wf_pRole (s : St) : Wf (pRole s).2 s := by
  unfold pRole
  split
  · unfold incEnd
    simp only []
    split
    · exact Wf.none _
    · exact Wf.trans (wf_pIncF _ _) (Wf.trans (wf_tl _) (wf_nmT s))
  · exact wf_nmT s
theorem wf_pImplF : ∀ (f : Nat) (s : St), Wf (pImplF f s).2 s
  | 0, s => Wf.refl _
  | f + 1, s => by
    rw [pImplF]
    split
    · exact Wf.trans (wf_pImplF f _) (wf_nmT s)
    · exact Wf.refl _
theorem wf_pImpl (s : St) : Wf (pImpl s).2 s := by
  unfold pImpl
  split
  · exact Wf.trans (wf_pImplF _ _) (Wf.trans (wf_nmT _) (wf_tl s))
  · exact Wf.refl _
theorem wf_pRows (s : St) : Wf (pRows s).2 s := by
  unfold pRows
  split
  · refine Wf.trans (wf_mustT _ _) (Wf.trans (wf_chain _ _ (wf_chain _ _ (wf_pUnit _)) _) ?_)
    unfold pRows2
    exact Wf.trans (wf_mustT _ _) (Wf.trans (wf_mustT _ _) (wf_tl s))
  · exact Wf.refl _
theorem wf_pObject (s : St) : Wf (pObject s).2 s := by
  unfold pObject
  dsimp only
  exact Wf.trans (wf_pFields _) (Wf.trans (wf_pRows _) (Wf.trans (wf_pImpl _) (wf_nmT s)))
theorem wf_pMemF : ∀ (f : Nat) (s : St), Wf (pMemF f s).2 s
  | 0, s => Wf.refl _
  | f + 1, s => by
    rw [pMemF]
    split
    · exact Wf.trans (wf_pMemF f _) (Wf.trans (wf_nmT _) (wf_tl s))
    · exact Wf.refl _
theorem wf_pMembers (s : St) : Wf (pMembers s).2 s := by
  unfold pMembers
  exact Wf.trans (wf_pMemF _ _) (Wf.trans (wf_nmT _) (wf_mustT _ _))
theorem wf_pDef (c : PSch) (s : St) : Wf (pDef c s).2 (nmT s) := by
  unfold pDef
  split
  · dsimp only
    exact wf_pRole _
  · split
    · dsimp only
      exact wf_pObject _
    · split
      · dsimp only
        exact Wf.trans (wf_pFields _) (wf_nmT _)
      · split
        · dsimp only
          exact Wf.trans (wf_pMembers _) (wf_nmT _)
        · exact Wf.none _
theorem sz_pIncF : ∀ (f : Nat) (s : St), wfS s → ∀ y ∈ (pIncF f s).1, y.size ≤ 4000
  | 0, _, _, y, hy => by simp [pIncF] at hy
  | f + 1, s, h, y, hy => by
    rw [pIncF] at hy
    split at hy
    · rcases List.mem_cons.1 hy with e | e
      · subst e; exact nmS_size s h
      · exact sz_pIncF f _ (wf_nmT s h) y e
    · simp at hy
theorem sz_pRole (s : St) (h : wfS s) : (pRole s).1.name.size ≤ 4000 ∧ ∀ y ∈ (pRole s).1.inc, y.size ≤ 4000 := by
  unfold pRole
  split
  · exact ⟨nmS_size s h, sz_pIncF _ _ (wf_tl _ (wf_nmT s h))⟩
  · exact ⟨nmS_size s h, fun y hy => by simp at hy⟩
theorem sz_pFieldsF : ∀ (f : Nat) (s : St), wfS s → ∀ y ∈ (pFieldsF f s).1, y.name.size ≤ 4000
  | 0, _, _, y, hy => by simp [pFieldsF] at hy
  | f + 1, s, h, y, hy => by
    rw [pFieldsF] at hy
    split at hy
    · rcases List.mem_cons.1 hy with e | e
      · subst e; exact nmS_size s h
      · exact sz_pFieldsF f _ (Wf.trans (wf_pField_le s) (wf_nmT s) h) y e
    · simp at hy
theorem sz_pFields (s : St) (h : wfS s) : ∀ y ∈ (pFields s).1, y.name.size ≤ 4000 := by
  intro y hy
  unfold pFields at hy
  have h1 := wf_mustT s (isK s 14) h
  rcases List.mem_cons.1 hy with e | e
  · subst e; exact nmS_size _ h1
  · exact sz_pFieldsF _ _ (Wf.trans (wf_pField_le _) (wf_nmT _) h1) y e
theorem sz_pImplF : ∀ (f : Nat) (s : St), wfS s → ∀ y ∈ (pImplF f s).1, y.size ≤ 4000
  | 0, _, _, y, hy => by simp [pImplF] at hy
  | f + 1, s, h, y, hy => by
    rw [pImplF] at hy
    split at hy
    · rcases List.mem_cons.1 hy with e | e
      · subst e; exact nmS_size s h
      · exact sz_pImplF f _ (wf_nmT s h) y e
    · simp at hy
theorem sz_pImpl (s : St) (h : wfS s) : ∀ y ∈ (pImpl s).1, y.size ≤ 4000 := by
  intro y hy
  unfold pImpl at hy
  split at hy
  · rcases List.mem_cons.1 hy with e | e
    · subst e; exact nmS_size _ (wf_tl s h)
    · exact sz_pImplF _ _ (wf_nmT _ (wf_tl s h)) y e
  · simp at hy
theorem sz_pMemF : ∀ (f : Nat) (s : St), wfS s → ∀ y ∈ (pMemF f s).1, y.size ≤ 4000
  | 0, _, _, y, hy => by simp [pMemF] at hy
  | f + 1, s, h, y, hy => by
    rw [pMemF] at hy
    split at hy
    · rcases List.mem_cons.1 hy with e | e
      · subst e; exact nmS_size _ (wf_tl s h)
      · exact sz_pMemF f _ (wf_nmT _ (wf_tl s h)) y e
    · simp at hy
theorem sz_pMembers (s : St) (h : wfS s) : ∀ y ∈ (pMembers s).1, y.size ≤ 4000 := by
  intro y hy
  unfold pMembers at hy
  have h1 := wf_mustT s (isK s 10) h
  rcases List.mem_cons.1 hy with e | e
  · subst e; exact nmS_size _ h1
  · exact sz_pMemF _ _ (wf_nmT _ h1) y e
theorem mem_snoc {α : Type} {l : List α} {x y : α} (h : y ∈ l ++ [x]) : y ∈ l ∨ y = x := by
  rcases List.mem_append.1 h with h | h
  · exact Or.inl h
  · exact Or.inr (by simpa using h)
theorem sz_pDef (c : PSch) (s : St) (h : wfS s) (hc : sizesC c) : sizesC (pDef c s).1 := by
  obtain ⟨z1, z2, z3, z4, z5⟩ := hc
  have h1 := wf_nmT s h
  have h2 := wf_nmT _ h1
  unfold pDef
  split
  · refine ⟨fun x hx => ?_, z2, z3, z4, z5⟩
    rcases mem_snoc hx with e | e
    · exact z1 x e
    · subst e; exact sz_pRole _ h1
  · split
    · refine ⟨z1, fun x hx => ?_, z3, z4, fun x hx => ?_⟩
      · rcases mem_snoc hx with e | e
        · exact z2 x e
        · subst e
          unfold pObject
          dsimp only
          exact ⟨sz_pFields _ (wf_pRows _ (wf_pImpl _ h2)), sz_pImpl _ h2⟩
      · rcases mem_snoc hx with e | e
        · exact z5 x e
        · subst e; exact nmS_size _ h1
    · split
      · refine ⟨z1, z2, fun x hx => ?_, z4, fun x hx => ?_⟩
        · rcases mem_snoc hx with e | e
          · exact z3 x e
          · subst e; exact sz_pFields _ h2
        · rcases mem_snoc hx with e | e
          · exact z5 x e
          · subst e; exact nmS_size _ h1
      · split
        · refine ⟨z1, z2, z3, fun x hx => ?_, fun x hx => ?_⟩
          · rcases mem_snoc hx with e | e
            · exact z4 x e
            · subst e; exact sz_pMembers _ h2
          · rcases mem_snoc hx with e | e
            · exact z5 x e
            · subst e; exact nmS_size _ h1
        · exact ⟨z1, z2, z3, z4, z5⟩
theorem sz_pLoop : ∀ (f : Nat) (c : PSch) (s : St), wfS s → sizesC c → sizesC (pLoop f c s).1
  | 0, _, _, _, hc => hc
  | f + 1, c, s, h, hc => by
    rw [pLoop]
    split
    · exact hc
    · exact sz_pLoop f _ _ (Wf.trans (wf_pDef c s) (wf_nmT s) h) (sz_pDef c s h hc)
theorem sz_c00 : sizesC c00 := ⟨fun _ hx => (List.not_mem_nil hx).elim, fun _ hx => (List.not_mem_nil hx).elim, fun _ hx => (List.not_mem_nil hx).elim, fun _ hx => (List.not_mem_nil hx).elim, fun _ hx => (List.not_mem_nil hx).elim⟩
theorem sz_pParse (s : St) (h : wfS s) : sizesC (pParse s).1 := by
  unfold pParse
  exact sz_pLoop _ _ _ (Wf.trans (wf_pDef _ s) (wf_nmT s) h) (sz_pDef _ s h sz_c00)
theorem wf_cutS (x : ByteArray) : wfS (cutS x) := by
  cases hq : cutS x with
  | none => intro t ht; simp at ht
  | some l => exact (cutS_ok x l hq).1
/-- THE PROGRAM's Check, at every text: its answer is checkP's -/
theorem check_any (x : ByteArray) (w : World) (hs : x.size ≤ maxLen) : Calls Tryz.prog 9 #[.string x] w fun e w' => e = .returned (.int .i64 (checkP x)) ∧ Below w.heap.size w w' :=
  checkP_any x w hs (sz_pParse _ (wf_cutS x))
end Go.Proofs.YtpggfgjongkihaaGreat
namespace Go.Proofs.YtpggfgjongkihaaGreat
open Go.RowKit
theorem apart_nodup (l : List ByteArray) : apartB l = nodupB l := by
  rw [Bool.eq_iff_iff, nodupB_iff]
  constructor
  · intro h
    have hall : ∀ i, i < l.length → memB (l.getD i bE) (l.take i) = false := by
      intro i hi
      cases hb : memB (l.getD i bE) (l.take i)
      · rfl
      · rw [apartB_false l i hi hb] at h; cases h
    have key : ∀ k, k ≤ l.length → (l.take k).Nodup := by
      intro k
      induction k with
      | zero => intro _; simp
      | succ k ih =>
        intro hk
        have hx := List.getElem?_eq_getElem (show k < l.length by omega)
        rw [List.take_add_one, hx]
        refine (nodup_snoc _ _).2 ⟨ih (by omega), fun hin => ?_⟩
        have := hall k (by omega)
        rw [List.getD_eq_getElem?_getD, hx, Option.getD_some, (memB_true _ _).2 hin] at this
        cases this
    have := key l.length (Nat.le_refl _)
    rwa [List.take_of_length_le (Nat.le_refl _)] at this
  · intro h
    refine apartB_true l (fun i hi => ?_)
    cases hb : memB (l.getD i bE) (l.take i)
    · rfl
    · have hx := List.getElem?_eq_getElem hi
      rw [List.getD_eq_getElem?_getD, hx, Option.getD_some] at hb
      have := nodupB_take l i _ hx hb
      rw [(nodupB_iff l).2 h] at this; cases this
/-- a type as the reference writes it -/
def tyB : PTy → ByteArray
  | .one n st => if st = true then n ++ ⟨#[33]⟩ else n
  | .list t st => if st = true then (⟨#[91]⟩ ++ tyB t ++ ⟨#[93]⟩) ++ ⟨#[33]⟩ else ⟨#[91]⟩ ++ tyB t ++ ⟨#[93]⟩
theorem type_same : ∀ (f : Nat) (s : St), ln s ≤ f → rType (f + 1) s = (tyB (pType (f + 1) s).1, (pType (f + 1) s).2) := by
  intro f
  induction f using Nat.strongRecOn with
  | _ f ih =>
  intro s hl
  rw [rType_succ, pType]
  cases hx : isK s 12
  · simp only [Bool.false_eq_true, if_false]
    cases h5 : isK (nmT s) 5
    · simp [tyB, mayT]
    · simp [tyB, mayT]
  · obtain ⟨f', rfl⟩ : ∃ f', f = f' + 1 := ⟨f - 1, by have := ln_tl_lt s 12 (by decide) hx; omega⟩
    have hh := ih f' (by omega) (tl s) (by have := ln_tl_lt s 12 (by decide) hx; omega)
    simp only [if_true]
    rw [hh]
    generalize pType (f' + 1) (tl s) = q
    cases h5 : isK (mustT q.2 (isK q.2 13)) 5
    · simp [tyB, mayT]
    · simp [tyB, mayT]
theorem rType_more : ∀ (f : Nat) (s : St), ln s ≤ f → rType f s = rType (f + 1) s := by
  intro f
  induction f with
  | zero =>
    intro s hl
    match s, hl with
    | none, _ => rfl
    | some l, hl => simp [ln] at hl
  | succ f ih =>
    intro s hl
    rw [rType_succ, rType_succ]
    cases hx : isK s 12
    · rfl
    · have := ih (tl s) (by have := ln_tl_lt s 12 (by decide) hx; omega)
      rw [this]
/-- types: the two readers agree -/
theorem types_agree (s : St) (h : ln s ≤ 801) : rType 801 s = (tyB (pType 802 s).1, (pType 802 s).2) := by
  rw [rType_more 801 s h]; exact type_same 801 s h
end Go.Proofs.YtpggfgjongkihaaGreat
namespace Go.Proofs.YtpggfgjongkihaaGreat
open Go.RowKit
theorem isW_nm (s : St) (x : ByteArray) (hx : 0 < x.size) : isW s x = decide (nm s = x) := by
  unfold isW nm isK
  cases h : ((hd s).k == 1)
  · simp only [Bool.false_and, Bool.false_eq_true, if_false]
    symm; rw [decide_eq_false_iff_not]
    intro e; subst e; exact absurd hx (by decide)
  · simp
theorem must_nm (s : St) (x : ByteArray) (hx : 0 < x.size) : mustT s (isW s x) = if nm s = x then nmT s else none := by
  rw [isW_nm s x hx]
  by_cases h : nm s = x
  · rw [if_pos h, decide_eq_true h]
    have := nm_isK s x h hx
    unfold mustT nmT
    rw [this]
  · rw [if_neg h, decide_eq_false h]; rfl
theorem mustT_none (b : Bool) : mustT none b = none := by unfold mustT; split <;> rfl
theorem nmT_none : nmT none = none := rfl
theorem arg_agree (s : St) : (rArg s).2 = (pFArg s).2 ∧ (rArg s).1 = (pFArg s).1.1 := by
  unfold rArg pFArg
  cases hx : isK s 7
  · simp [bE]
  · simp only [if_true]
    refine ⟨?_, rfl⟩
    unfold pArg pArgS pScalar
    by_cases h1 : nm (tl s) = bId
    · rw [if_pos h1, if_pos h1]
      rw [show (⟨#[73, 68]⟩ : ByteArray) = bID from rfl, must_nm _ bID (by decide)]
      congr 1
      · by_cases h2 : nm (mustT (nmT (tl s)) (isK (nmT (tl s)) 9)) = bID
        · rw [if_pos h2, if_neg]; rw [h1, h2]; decide
        · rw [if_neg h2, if_pos]
          unfold badArg; rw [h1, decide_eq_false h2]; simp; left; decide
      · by_cases h2 : nm (mustT (nmT (tl s)) (isK (nmT (tl s)) 9)) = bID
        · rw [if_pos h2, if_neg]; rw [h1, h2]; decide
        · rw [if_neg h2, if_pos]
          unfold badArg; rw [h1, decide_eq_false h2]; simp; left; decide
    · rw [if_neg h1, if_neg h1]
      by_cases h3 : nm (tl s) = bFirst
      · rw [if_pos h3, if_pos h3]
        rw [show (⟨#[73, 110, 116]⟩ : ByteArray) = bInt from rfl, must_nm _ bInt (by decide)]
        congr 1
        · by_cases h2 : nm (mustT (nmT (tl s)) (isK (nmT (tl s)) 9)) = bInt
          · rw [if_pos h2, if_neg]; rw [h3, h2]; decide
          · rw [if_neg h2, if_pos]
            unfold badArg; rw [h3, decide_eq_false h2]; simp; left; decide
        · by_cases h2 : nm (mustT (nmT (tl s)) (isK (nmT (tl s)) 9)) = bInt
          · rw [if_pos h2, if_neg]; rw [h3, h2]; decide
          · rw [if_neg h2, if_pos]
            unfold badArg; rw [h3, decide_eq_false h2]; simp; left; decide
      · rw [if_neg h3, if_neg h3]
        rw [if_pos (show badArg (nm (tl s)) (nm (mustT (nmT (tl s)) (isK (nmT (tl s)) 9))) = true from by
          unfold badArg; rw [decide_eq_false h1, decide_eq_false h3]; rfl)]
        rw [mustT_none, mustT_none, mustT_none, mustT_none]
theorem rMarks_none (f : Nat) (a h : ByteArray) : rMarks f none a h = ((a, h), none) := by
  cases f with
  | zero => rfl
  | succ f => rw [rMarks, if_neg (by rw [isK_none 11 (by decide)]; simp)]
theorem pMarks_none (f : Nat) (a h : ByteArray) : pMarks f none a h = ((a, h), none) := by
  cases f with
  | zero => rfl
  | succ f => rw [pMarks, if_neg (by rw [isK_none 11 (by decide)]; simp)]
theorem marks_agree : ∀ (f : Nat) (s : St) (a h : ByteArray), (rMarks f s a h).2 = (pMarks f s a h).2 ∧ ((pMarks f s a h).2 ≠ none → (rMarks f s a h).1 = (pMarks f s a h).1)
  | 0, s, a, h => ⟨rfl, fun _ => rfl⟩
  | f + 1, s, a, h => by
    rw [rMarks, pMarks]
    cases hx : isK s 11
    · simp
    · simp only [if_true]
      unfold pMark
      by_cases h1 : nm (tl s) = bAuth
      · rw [if_pos h1]
        by_cases h2 : a = bE
        · rw [if_pos ⟨h1, h2⟩]
          unfold pMarkRole
          rw [if_pos h2]
          exact marks_agree f _ _ _
        · rw [if_neg (fun e => h2 e.2), if_neg (fun e => by rw [h1] at e; exact absurd e.1 (by decide))]
          unfold pMarkRole
          rw [if_neg h2]
          simp only [mustT_none, nmT_none]
          rw [pMarks_none]
          exact ⟨rfl, fun e => absurd rfl e⟩
      · rw [if_neg h1, if_neg (fun e => h1 e.1)]
        by_cases h3 : nm (tl s) = bHide
        · rw [if_pos h3]
          by_cases h2 : h = bE
          · rw [if_pos ⟨h3, h2⟩]
            unfold pMarkRole
            rw [if_pos h2]
            exact marks_agree f _ _ _
          · rw [if_neg (fun e => h2 e.2)]
            unfold pMarkRole
            rw [if_neg h2]
            simp only [mustT_none, nmT_none]
            rw [pMarks_none]
            exact ⟨rfl, fun e => absurd rfl e⟩
        · rw [if_neg h3, if_neg (fun e => h3 e.1), pMarks_none]
          exact ⟨rfl, fun e => absurd rfl e⟩
/-- a field as the reference has it -/
def toR (f : PFld) : RFld := ⟨f.name, f.arg, tyB f.ty, f.auth, f.hide_⟩
theorem field_agree (s : St) (hl : ln s ≤ 801) : (rField s).2 = (pField s).2 ∧ ((pField s).2 ≠ none → (rField s).1 = toR (pField s).1) := by
  have ha := arg_agree (nmT s)
  have hl2 : ln (mustT (rArg (nmT s)).2 (isK (rArg (nmT s)).2 9)) ≤ 801 := Nat.le_trans (ln_mustT _ _) (Nat.le_trans (by rw [ha.1]; exact ln_pFArg _) (Nat.le_trans (ln_nmT s) hl))
  have ht := types_agree _ hl2
  unfold rField pField pTyS toR
  dsimp only
  rw [ht]
  rw [ha.1, ha.2]
  dsimp only
  have hm := marks_agree 801 (pType 802 (mustT (pFArg (nmT s)).2 (isK (pFArg (nmT s)).2 9))).2 bE bE
  rw [show (⟨#[]⟩ : ByteArray) = bE from rfl]
  refine ⟨hm.1, fun e => ?_⟩
  rw [hm.2 e]
end Go.Proofs.YtpggfgjongkihaaGreat
namespace Go.Proofs.YtpggfgjongkihaaGreat
open Go.RowKit
theorem mayT_none (b : Bool) : mayT none b = none := by unfold mayT; split <;> rfl
theorem pType_none (f : Nat) : (pType (f + 1) none).2 = none := by
  rw [pType, if_neg (by rw [isK_none 12 (by decide)]; simp)]
  dsimp only
  rw [nmT_none]
  exact mayT_none _
theorem nmT_not (s : St) (h : ¬ isK s 1 = true) : nmT s = none := by unfold nmT; rw [if_neg h]
theorem pField_none (s : St) (h : nmT s = none) : (pField s).2 = none := by
  unfold pField pTyS
  dsimp only
  rw [h]
  have e1 : (pFArg none).2 = none := by unfold pFArg; rw [if_neg (by rw [isK_none 7 (by decide)]; simp)]
  rw [e1, mustT_none]
  have e2 := pType_none 801
  rw [e2, pMarks_none]
theorem isK_two (s : St) (a b : Nat) (h : a ≠ b) (ha : isK s a = true) : isK s b = false := by
  unfold isK at *
  simp only [beq_iff_eq] at ha
  rw [ha]; simpa using h
theorem fldF_agree : ∀ (n : Nat) (s : St) (g : Nat), ln s ≤ n → n ≤ 801 → s.isNone = false → ln (pField s).2 ≤ g →
    (rFldF (ln s) s).2 = mustT (pFieldsF g (pField s).2).2 (isK (pFieldsF g (pField s).2).2 15) ∧ (mustT (pFieldsF g (pField s).2).2 (isK (pFieldsF g (pField s).2).2 15) ≠ none → (rFldF (ln s) s).1 = ((pField s).1 :: (pFieldsF g (pField s).2).1).map toR) := by
  intro n
  induction n using Nat.strongRecOn with
  | _ n ih =>
  intro s g hl hn hs hg
  have hf := field_agree s (by omega)
  rw [rFldF_some s hs, hf.1]
  have hlt : ln (pField s).2 < ln s := Nat.lt_of_le_of_lt (ln_pField_le s) (ln_nmT_lt s hs)
  cases h15 : isK (pField s).2 15
  · simp only [Bool.false_eq_true, if_false]
    cases h1 : isK (pField s).2 1
    · rw [pFieldsF_stop g _ h1]
      dsimp only
      rw [h15]
      have e0 : (rFldF (ln (pField s).2) (pField s).2).2 = none := by
        cases hn1 : (pField s).2.isNone
        · rw [rFldF_some _ hn1]
          have e1 : (rField (pField s).2).2 = none := by
            rw [(field_agree _ (by omega)).1]
            exact pField_none _ (by unfold nmT; rw [if_neg (by rw [h1]; simp)])
          rw [e1, isK_none 15 (by decide)]
          rfl
        · rw [rFldF_none _ hn1]
          simpa using hn1
      rw [e0]
      exact ⟨rfl, fun e => absurd rfl e⟩
    · have hn1 : (pField s).2.isNone = false := by
        cases hq : (pField s).2 with
        | none => rw [hq, isK_none 1 (by decide)] at h1; cases h1
        | some l => rfl
      have hlt2 := ln_nmT1 _ h1
      have hle2 := ln_pField_le (pField s).2
      obtain ⟨g', rfl⟩ : ∃ g', g = g' + 1 := ⟨g - 1, by omega⟩
      have hh := ih (ln (pField s).2) (by omega) (pField s).2 g' (Nat.le_refl _) (by omega) hn1 (by omega)
      rw [pFieldsF, if_pos h1]
      dsimp only
      refine ⟨hh.1, fun e => ?_⟩
      rw [hh.2 e, hf.2 (by intro hq; rw [hq] at hn1; cases hn1)]
      rfl
  · simp only [if_true]
    rw [pFieldsF_stop g _ (isK_two _ 15 1 (by decide) h15)]
    dsimp only
    rw [h15]
    refine ⟨rfl, fun _ => ?_⟩
    rw [hf.2 (by intro hq; rw [hq, isK_none 15 (by decide)] at h15; cases h15)]
    rfl
theorem fields_agree (s : St) (hl : ln s ≤ 801) : (rFields s).2 = (pFields s).2 ∧ ((pFields s).2 ≠ none → (rFields s).1 = (pFields s).1.map toR) := by
  unfold rFields pFields
  dsimp only
  have hl2 : ln (mustT s (isK s 14)) ≤ 801 := Nat.le_trans (ln_mustT _ _) hl
  rw [rFldF_fuel 801 _ hl2]
  cases hs : (mustT s (isK s 14)).isNone
  · exact fldF_agree _ _ 801 (Nat.le_refl _) hl2 hs (Nat.le_trans (ln_pField_le _) (Nat.le_trans (ln_nmT _) hl2))
  · have e : mustT s (isK s 14) = none := by simpa using hs
    rw [e]
    have e2 : (pField none).2 = none := pField_none none rfl
    rw [e2, pFieldsF_stop 801 none (isK_none 1 (by decide))]
    dsimp only
    rw [mustT_none]
    exact ⟨rfl, fun x => absurd rfl x⟩
theorem incF_agree : ∀ (n : Nat) (s : St) (g : Nat), ln s ≤ n → ln s ≤ g → okNext s = true →
    rIncF (ln s) s = pIncF g s := by
  intro n
  induction n using Nat.strongRecOn with
  | _ n ih =>
  intro s g hl hg hok
  have hk : isK s 1 = true := by unfold okNext at hok; exact (Bool.and_eq_true _ _ ▸ hok).1
  have hkb : kindB (nm s) = false := by
    unfold okNext at hok
    have h2 := (Bool.and_eq_true _ _ ▸ hok).2
    have : nm s = (hd s).s := by unfold nm; rw [if_pos hk]
    rw [this]; simpa using h2
  have hs : s.isNone = false := by
    cases s with
    | none => rw [isK_none 1 (by decide)] at hk; cases hk
    | some l => rfl
  have hlt := ln_nmT1 s hk
  obtain ⟨g', rfl⟩ : ∃ g', g = g' + 1 := ⟨g - 1, by omega⟩
  rw [rIncF_some s (nmT s) hs (by rw [hkb]; simp), pIncF, if_pos hok]
  cases h2 : okNext (nmT s)
  · simp only [Bool.false_eq_true, if_false]
    rw [pIncF_stop g' _ h2]
  · simp only [if_true]
    rw [ih (ln (nmT s)) (by omega) (nmT s) g' (Nat.le_refl _) (by omega) h2]
theorem role_agree (s : St) (hl : ln s ≤ 801) : (rRole s).2 = (pRole s).2 ∧ ((pRole s).2 ≠ none → (rRole s).1 = (pRole s).1) := by
  unfold rRole pRole
  cases hx : isK (nmT s) 9
  · simp
  · simp only [if_true]
    have hl2 : ln (tl (nmT s)) ≤ 801 := Nat.le_trans (ln_tl_le _) (Nat.le_trans (ln_nmT s) hl)
    rw [rIncF_fuel 801 _ hl2]
    cases hok : okNext (tl (nmT s))
    · rw [pIncF_stop 801 _ hok]
      have e0 : (rIncF (ln (tl (nmT s))) (tl (nmT s))).2 = none := by
        cases hs : (tl (nmT s)).isNone
        · have e1 : (if kindB (nm (tl (nmT s))) = true then none else nmT (tl (nmT s))) = none := by
            by_cases hk : isK (tl (nmT s)) 1 = true
            · have hn : nm (tl (nmT s)) = (hd (tl (nmT s))).s := by unfold nm; rw [if_pos hk]
              unfold okNext at hok
              rw [hk, Bool.true_and] at hok
              rw [hn, if_pos (by simpa using hok)]
            · split
              · rfl
              · exact nmT_not _ hk
          rw [rIncF_some _ none hs e1.symm]
          have : okNext none = false := by unfold okNext; rw [isK_none 1 (by decide)]; rfl
          rw [this]; rfl
        · rw [rIncF_none _ hs]
          simpa using hs
      rw [e0]
      exact ⟨by simp [incEnd], fun e => absurd (by simp [incEnd]) e⟩
    · rw [incF_agree _ _ 801 (Nat.le_refl _) hl2 hok]
      have hne : (pIncF 801 (tl (nmT s))).1.length ≠ 0 := by
        rw [pIncF, if_pos hok]; simp
      exact ⟨by unfold incEnd; rw [if_neg hne], fun _ => rfl⟩
end Go.Proofs.YtpggfgjongkihaaGreat
namespace Go.Proofs.YtpggfgjongkihaaGreat
open Go.RowKit
theorem mem_agree : ∀ (n : Nat) (s : St) (g : Nat), ln s ≤ n → ln s ≤ g →
    (rMemF (ln s) s).2 = (pMemF g (nmT s)).2 ∧ ((pMemF g (nmT s)).2 ≠ none → (rMemF (ln s) s).1 = nm s :: (pMemF g (nmT s)).1) := by
  intro n
  induction n with
  | zero =>
    intro s g hn hg
    cases s with
    | none =>
      rw [rMemF_none _ rfl, nmT_none, pMemF_stop _ _ (isK_none 16 (by decide))]
      exact ⟨rfl, fun e => absurd rfl e⟩
    | some l =>
      exact absurd (ln_mem (some l) rfl) (by omega)
  | succ n ih =>
    intro s g hn hg
    cases hs : s.isNone
    · have hlt := ln_mem s hs
      rw [rMemF_some s hs]
      cases hk : isK (nmT s) 16
      · rw [pMemF_stop _ _ hk]
        simp
      · obtain ⟨g', rfl⟩ : ∃ g', g = g' + 1 := ⟨g - 1, by omega⟩
        rw [pMemF, if_pos hk, if_pos rfl]
        obtain ⟨h1, h2⟩ := ih (tl (nmT s)) g' (by omega) (by omega)
        refine ⟨h1, fun e => ?_⟩
        dsimp only at e ⊢
        rw [h2 e]
    · have : s = none := by simpa using hs
      subst this
      rw [rMemF_none _ rfl, nmT_none, pMemF_stop _ _ (isK_none 16 (by decide))]
      exact ⟨rfl, fun e => absurd rfl e⟩
theorem impF_agree : ∀ (n : Nat) (s : St) (g : Nat), ln s ≤ n → ln s ≤ g →
    (rImpF (ln s) s).2 = (pImplF g (nmT s)).2 ∧ ((pImplF g (nmT s)).2 ≠ none → (rImpF (ln s) s).1 = nm s :: (pImplF g (nmT s)).1) := by
  intro n
  induction n with
  | zero =>
    intro s g hn hg
    cases s with
    | none =>
      rw [rImpF_none _ rfl, nmT_none, pImplF_stop _ _ (isK_none 1 (by decide))]
      exact ⟨rfl, fun e => absurd rfl e⟩
    | some l =>
      exact absurd (ln_nmT_lt (some l) rfl) (by omega)
  | succ n ih =>
    intro s g hn hg
    cases hs : s.isNone
    · have hlt := ln_nmT_lt s hs
      rw [rImpF_some s hs]
      cases hk : isK (nmT s) 1
      · rw [pImplF_stop _ _ hk]
        simp
      · obtain ⟨g', rfl⟩ : ∃ g', g = g' + 1 := ⟨g - 1, by omega⟩
        rw [pImplF, if_pos hk, if_pos rfl]
        obtain ⟨h1, h2⟩ := ih (nmT s) g' (by omega) (by omega)
        refine ⟨h1, fun e => ?_⟩
        dsimp only at e ⊢
        rw [h2 e]
    · have : s = none := by simpa using hs
      subst this
      rw [rImpF_none _ rfl, nmT_none, pImplF_stop _ _ (isK_none 1 (by decide))]
      exact ⟨rfl, fun e => absurd rfl e⟩
theorem impl_agree (s : St) (hl : ln s ≤ 801) : (rImp s).2 = (pImpl s).2 ∧ ((pImpl s).2 ≠ none → (rImp s).1 = (pImpl s).1) := by
  unfold rImp pImpl
  cases hw : isW s bImpl
  · simp
  · simp only [if_true]
    have hl2 : ln (tl s) ≤ 801 := Nat.le_trans (ln_tl_le s) hl
    rw [rImpF_fuel 801 _ hl2]
    exact impF_agree _ (tl s) 801 (Nat.le_refl _) hl2
theorem union_agree (s : St) (hl : ln s ≤ 801) : (rUnion s).2 = (pMembers (nmT s)).2 ∧ ((pMembers (nmT s)).2 ≠ none → (rUnion s).1 = ⟨2, nm s, [], (pMembers (nmT s)).1, false, []⟩) := by
  have hl2 : ln (mustT (nmT s) (isK (nmT s) 10)) ≤ 801 := Nat.le_trans (ln_mustT _ _) (Nat.le_trans (ln_nmT s) hl)
  have H := mem_agree _ (mustT (nmT s) (isK (nmT s) 10)) 801 (Nat.le_refl _) hl2
  unfold rUnion pMembers
  dsimp only
  rw [rMemF_fuel 801 _ hl2]
  exact ⟨H.1, fun e => by rw [H.2 e]⟩
end Go.Proofs.YtpggfgjongkihaaGreat
namespace Go.Proofs.YtpggfgjongkihaaGreat
open Go.RowKit
/-- What follows a chain's first part. -/
def chT (word : ByteArray) (part : St → List Leaf × St) : Nat → St → List Leaf × St
  | 0, s => ([], s)
  | f + 1, s => if isW s word = true then ((part (tl s)).1 ++ (chT word part f (part (tl s)).2).1, (chT word part f (part (tl s)).2).2) else ([], s)
theorem chainF_chT (word : ByteArray) (part : St → List Leaf × St) : ∀ (f : Nat) (acc : List (List Leaf)) (s : St),
    (chainF word part f acc s).1.flatten = acc.flatten ++ (chT word part f s).1 ∧ (chainF word part f acc s).2 = (chT word part f s).2
  | 0, acc, s => by simp [chainF, chT]
  | f + 1, acc, s => by
    rw [chainF, chT]
    cases h : isW s word
    · simp
    · simp only [if_true]
      obtain ⟨h1, h2⟩ := chainF_chT word part f (acc ++ [(part (tl s)).1]) (part (tl s)).2
      rw [h1, h2]
      simp
theorem chain_eq (word : ByteArray) (part : St → List Leaf × St) (s : St) :
    chain word part s = ((part s).1 ++ (chT word part 801 (part s).2).1, (chT word part 801 (part s).2).2) := by
  unfold chain
  obtain ⟨h1, h2⟩ := chainF_chT word part 801 [(part s).1] (part s).2
  rw [h1, h2]
  simp
/-- What follows the first unit of a flat chain. -/
def flT (part : St → List Leaf × St) : Nat → St → List Leaf × St
  | 0, s => ([], s)
  | f + 1, s => if (isW s bAnd || isW s bOr) = true then ((part (tl s)).1 ++ (flT part f (part (tl s)).2).1, (flT part f (part (tl s)).2).2) else ([], s)
theorem flat_eq (part : St → List Leaf × St) (hp : ∀ s, ln (part s).2 ≤ ln s) : ∀ (n : Nat) (s : St) (f g : Nat), ln s ≤ n → ln s ≤ f → ln s ≤ g → ln s ≤ 801 →
    ((chT bAnd part f s).1 ++ (chT bOr (chain bAnd part) g (chT bAnd part f s).2).1, (chT bOr (chain bAnd part) g (chT bAnd part f s).2).2) = flT part n s := by
  intro n
  induction n with
  | zero =>
    intro s f g hn hf hg h8
    have ha : isW s bAnd = false := by
      cases h : isW s bAnd
      · rfl
      · have := ln_isW s _ h; omega
    have ho : isW s bOr = false := by
      cases h : isW s bOr
      · rfl
      · have := ln_isW s _ h; omega
    have e1 : chT bAnd part f s = ([], s) := by cases f <;> simp [chT, ha]
    rw [e1]
    have e2 : chT bOr (chain bAnd part) g s = ([], s) := by cases g <;> simp [chT, ho]
    simp [e2, flT]
  | succ n ih =>
    intro s f g hn hf hg h8
    rw [flT]
    cases ha : isW s bAnd
    · have e1 : chT bAnd part f s = ([], s) := by cases f <;> simp [chT, ha]
      rw [e1]
      dsimp only
      cases ho : isW s bOr
      · have e2 : chT bOr (chain bAnd part) g s = ([], s) := by cases g <;> simp [chT, ho]
        simp [e2]
      · have hlt := ln_isW s _ ho
        have hq := hp (tl s)
        obtain ⟨g', rfl⟩ : ∃ g', g = g' + 1 := ⟨g - 1, by omega⟩
        have H := ih (part (tl s)).2 801 g' (by omega) (by omega) (by omega) (by omega)
        rw [chT, if_pos ho, if_pos (by simp), ← H, chain_eq]
        simp
    · have hlt := ln_isW s _ ha
      have hq := hp (tl s)
      obtain ⟨f', rfl⟩ : ∃ f', f = f' + 1 := ⟨f - 1, by omega⟩
      have H := ih (part (tl s)).2 f' g (by omega) (by omega) (by omega) (by omega)
      rw [if_pos (by simp), ← H, chT, if_pos ha]
      simp
/-- A rule of the program, flat. -/
theorem pRule_flat (f : Nat) (s : St) (hl : ln s ≤ 801) : pRule f s = ((pUnit f s).1 ++ (flT (pUnit f) 801 (pUnit f s).2).1, (flT (pUnit f) 801 (pUnit f s).2).2) := by
  have hq : ln (pUnit f s).2 ≤ ln s := ln_pUnit f s
  show chain bOr (chain bAnd (pUnit f)) s = _
  rw [chain_eq, chain_eq, ← flat_eq (pUnit f) (ln_pUnit f) 801 (pUnit f s).2 801 801 (by omega) (by omega) (by omega) (by omega)]
  simp
end Go.Proofs.YtpggfgjongkihaaGreat
namespace Go.Proofs.YtpggfgjongkihaaGreat
open Go.RowKit
theorem isW_no (x : ByteArray) : isW none x = false := by unfold isW; simp [hd, zTk]
theorem lit_agree (s : St) : litT s = pVal s := by
  unfold litT pVal isLit wordS isK isW
  by_cases h2 : (hd s).k = 2
  · simp [h2]
  · by_cases h3 : (hd s).k = 3
    · simp [h3]
    · by_cases h1 : (hd s).k = 1
      · simp only [h1]
        by_cases a : (hd s).s = bTrue
        · simp [a]
        · by_cases b : (hd s).s = bFalse
          · simp [b]
          · simp [a, b]
      · simp [h1, h2, h3]
theorem rNots_more : ∀ (f : Nat) (s : St), ln s ≤ f → rNots (f + 1) s = rNots f s := by
  intro f
  induction f with
  | zero =>
    intro s h
    have : isW s bNot = false := by
      cases e : isW s bNot
      · rfl
      · have := ln_isW s _ e; omega
    simp [rNots, this]
  | succ f ih =>
    intro s h
    rw [rNots]
    cases e : isW s bNot
    · simp [rNots, e]
    · have := ln_isW s _ e
      rw [if_pos rfl, ih (tl s) (by omega)]
      conv => rhs; rw [rNots, if_pos e]
theorem unitWith_not (rr : St → St) (s : St) (h : isW s bNot = true) (hl : ln s ≤ 801) : unitWith rr s = unitWith rr (tl s) := by
  have h1 := ln_isW s _ h
  have e : rNots 801 s = rNots 801 (tl s) := by
    rw [rNots_more 800 (tl s) (by omega), rNots, if_pos h]
  unfold unitWith
  rw [e]
theorem unitWith_here (rr : St → St) (s : St) (h : isW s bNot = false) : unitWith rr s =
    if isW s bAll = true then tl s else if isW s bIs = true then nmT (tl s) else if isK s 7 = true then mustT (rr (tl s)) (isK (rr (tl s)) 8)
    else if isW (mustT (nmT s) (isK (nmT s) 10)) bViewer = true then tl (mustT (nmT s) (isK (nmT s) 10)) else litT (mustT (nmT s) (isK (nmT s) 10)) := by
  have e : rNots 801 s = s := by rw [rNots, if_neg (by rw [h]; simp)]
  unfold unitWith
  rw [e]
theorem unitWith_none (rr : St → St) : unitWith rr none = none := by
  rw [unitWith_here rr none (isW_no _), isW_no, isW_no, isK_none 7 (by decide), nmT_none, mustT_none, isW_no]
  simp only [Bool.false_eq_true, if_false]
  unfold litT
  split
  · rfl
  · rfl
theorem pUnit_none (g : Nat) : (pUnit g none).2 = none := by
  have := ln_pUnit g none
  cases h : (pUnit g none).2 with
  | none => rfl
  | some l => rw [h] at this; simp [ln] at this
theorem rRuleF_no (f : Nat) : rRuleF f none = none := by cases f <;> rfl
theorem isW_isK (s : St) (x : ByteArray) (h : isW s x = true) : isK s 1 = true := by
  unfold isW at h; unfold isK
  exact (Bool.and_eq_true _ _ ▸ h).1
theorem nmT_tl (s : St) (h : isK s 1 = true) : nmT s = tl s := by unfold nmT; rw [if_pos h]
theorem rule_of_unit (n g : Nat) (hU : ∀ (s : St) (f : Nat), ln s ≤ n → ln s ≤ f + 1 → (pUnit g s).2 = unitWith (rRuleF f) s) :
    ∀ (f : Nat) (s : St) (m : Nat), ln s ≤ n → ln s ≤ f → ln s ≤ m → (flT (pUnit g) m (pUnit g s).2).2 = rRuleF f s := by
  intro f
  induction f with
  | zero =>
    intro s m hn hf hm
    cases s with
    | none =>
      rw [rRuleF_no, pUnit_none]
      cases m with
      | zero => rfl
      | succ m => rw [flT, isW_no, isW_no]; rfl
    | some l => simp [ln] at hf
  | succ f ih =>
    intro s m hn hf hm
    cases hs : s.isNone
    · rw [rRuleF, hs]
      simp only [Bool.false_eq_true, if_false]
      rw [← hU s f hn hf]
      have h1 := ln_pUnit g s
      generalize (pUnit g s).2 = s1 at h1 ⊢
      cases ha : isW s1 bAnd
      · cases ho : isW s1 bOr
        · cases m with
          | zero => simp [flT]
          | succ m => simp [flT, ha, ho]
        · have := ln_isW s1 _ ho
          obtain ⟨m', rfl⟩ : ∃ m', m = m' + 1 := ⟨m - 1, by omega⟩
          rw [flT, if_pos (by simp [ho])]
          simp only [Bool.false_eq_true, if_false, if_true]
          exact ih (tl s1) m' (by omega) (by omega) (by omega)
      · have := ln_isW s1 _ ha
        obtain ⟨m', rfl⟩ : ∃ m', m = m' + 1 := ⟨m - 1, by omega⟩
        rw [flT, if_pos (by simp [ha])]
        simp only [if_true]
        exact ih (tl s1) m' (by omega) (by omega) (by omega)
    · have : s = none := by simpa using hs
      subst this
      rw [rRuleF_no, pUnit_none]
      cases m with
      | zero => rfl
      | succ m => rw [flT, isW_no, isW_no]; rfl
theorem unit_state : ∀ (n : Nat) (s : St) (g f : Nat), ln s ≤ n → n ≤ 801 → n ≤ g → ln s ≤ f + 1 → (pUnit g s).2 = unitWith (rRuleF f) s := by
  intro n
  induction n with
  | zero =>
    intro s g f hn h8 hg hf
    cases s with
    | none => rw [pUnit_none, unitWith_none]
    | some l => simp [ln] at hn
  | succ n ih =>
    intro s g f hn h8 hg hf
    obtain ⟨g', rfl⟩ : ∃ g', g = g' + 1 := ⟨g - 1, by omega⟩
    cases hs : s with
    | none => rw [pUnit_none, unitWith_none]
    | some l0 =>
    rw [← hs]
    rw [pUnit_succ]
    by_cases h7 : isK s 7 = true
    · have hw : ∀ x, isW s x = false := by
        intro x
        cases e : isW s x
        · rfl
        · have := isK_two s 1 7 (by decide) (isW_isK s x e); rw [h7] at this; cases this
      have hlt := ln_tl_lt s 7 (by decide) h7
      rw [if_pos h7, unitWith_here _ s (hw _), hw, hw, h7]
      simp only [Bool.false_eq_true, if_false, if_true]
      have R : (pRule g' (tl s)).2 = rRuleF f (tl s) := by
        rw [pRule_flat g' (tl s) (by omega)]
        exact rule_of_unit n g' (fun s f h1 h2 => ih s g' f h1 (by omega) (by omega) h2) f (tl s) 801 (by omega) (by omega) (by omega)
      rw [← R]
      rfl
    · rw [if_neg h7]
      have hWn : ∀ x : ByteArray, 0 < x.size → (nm s = x ↔ isW s x = true) := by
        intro x hx; rw [isW_nm s x hx]; simp
      by_cases hN : nm s = bNot
      · have hw := (hWn bNot (by decide)).1 hN
        have hlt := ln_isW s _ hw
        rw [if_pos hN, unitWith_not _ s hw (by omega), nmT_tl s (isW_isK s _ hw)]
        exact ih (tl s) g' f (by omega) (by omega) (by omega) (by omega)
      · have hw : isW s bNot = false := by
          cases e : isW s bNot
          · rfl
          · exact absurd ((hWn bNot (by decide)).2 e) hN
        rw [if_neg hN, unitWith_here _ s hw]
        by_cases hA : nm s = bAll
        · have hw := (hWn bAll (by decide)).1 hA
          rw [if_pos hA, if_pos hw, nmT_tl s (isW_isK s _ hw)]
        · rw [if_neg hA, if_neg (fun e => hA ((hWn bAll (by decide)).2 e))]
          by_cases hI : nm s = bIs
          · have hw := (hWn bIs (by decide)).1 hI
            rw [if_pos hI, if_pos hw, nmT_tl s (isW_isK s _ hw)]
          · rw [if_neg hI, if_neg (fun e => hI ((hWn bIs (by decide)).2 e)), if_neg h7, lit_agree]
            rfl
theorem rule_state (s : St) (g : Nat) (hg : 801 ≤ g) (hl : ln s ≤ 801) : (pRule g s).2 = rRule s := by
  rw [pRule_flat g s hl]
  exact rule_of_unit 801 g (fun s f h1 h2 => unit_state 801 s g f h1 (by omega) hg h2) 801 s 801 hl hl hl
theorem rows_state (s : St) (hl : ln s ≤ 801) : (rRows s).2 = (pRows s).2 := by
  unfold rRows pRows pRows2
  cases h : isK s 11
  · simp
  · simp only [if_true]
    have hl2 : ln (mustT (mustT (tl s) (isW (tl s) bRows)) (isK (mustT (tl s) (isW (tl s) bRows)) 7)) ≤ 801 :=
      Nat.le_trans (ln_mustT _ _) (Nat.le_trans (ln_mustT _ _) (Nat.le_trans (ln_tl_le _) hl))
    rw [rule_state _ 802 (by decide) hl2]
end Go.Proofs.YtpggfgjongkihaaGreat
namespace Go.Proofs.YtpggfgjongkihaaGreat
open Go.RowKit
theorem none_of_ln {a b : St} (h : ln b ≤ ln a) (hb : b ≠ none) : a ≠ none := by
  intro e
  subst e
  cases b with
  | none => exact hb rfl
  | some l => simp [ln] at h
theorem pRows_isSome (s : St) : (pRows s).1.isSome = isK s 11 := by
  unfold pRows
  cases h : isK s 11 <;> simp
theorem object_agree (s : St) (hl : ln s ≤ 801) : (rObject s).2 = (pObject s).2 ∧ ((pObject s).2 ≠ none →
    (rObject s).1 = ⟨0, (pObject s).1.name, (pObject s).1.fields.map toR, (pObject s).1.impl, (pObject s).1.rule.isSome, (rRows (pImpl (nmT s)).2).1⟩) := by
  have h1 : ln (nmT s) ≤ 801 := Nat.le_trans (ln_nmT s) hl
  have hi := impl_agree (nmT s) h1
  have h2 : ln (pImpl (nmT s)).2 ≤ 801 := Nat.le_trans (ln_pImpl _) h1
  have hr := rows_state (pImpl (nmT s)).2 h2
  have h3 : ln (pRows (pImpl (nmT s)).2).2 ≤ 801 := Nat.le_trans (ln_pRows _) h2
  have hf := fields_agree _ h3
  unfold rObject pObject
  dsimp only
  rw [hi.1, hr]
  refine ⟨hf.1, fun e => ?_⟩
  have e1 : (pImpl (nmT s)).2 ≠ none := none_of_ln (Nat.le_trans (ln_pFields _) (ln_pRows _)) e
  rw [hf.2 e, hi.2 e1, pRows_isSome]
end Go.Proofs.YtpggfgjongkihaaGreat
namespace Go.Proofs.YtpggfgjongkihaaGreat
open Go.RowKit
/-- The leaves that a scan over a rule's tokens meets. -/
def scan : List Tk → List Leaf
  | [] => []
  | [_] => []
  | t :: u :: r =>
    if t.k = 1 then
      if u.k = 10 then (false, t.s) :: scan (r.drop 1)
      else if t.s = bIs then (true, u.s) :: scan r
      else scan (u :: r)
    else scan (u :: r)
  termination_by l => l.length
  decreasing_by all_goals (simp; try omega)
def No10 (r : List Tk) : Prop := ∀ t, r.head? = some t → t.k ≠ 10
theorem scan_skip (t : Tk) (r : List Tk) (h : t.k ≠ 1) : scan (t :: r) = scan r := by
  cases r with
  | nil => rw [scan, scan]
  | cons u r => rw [scan, if_neg h]
theorem scan_word (t : Tk) (r : List Tk) (h : t.s ≠ bIs) (hr : No10 r) : scan (t :: r) = scan r := by
  cases r with
  | nil => rw [scan, scan]
  | cons u r =>
    rw [scan, if_neg (hr u rfl), if_neg h]
    split <;> rfl
theorem scan_eq (t u v : Tk) (r : List Tk) (h : t.k = 1) (hu : u.k = 10) : scan (t :: u :: v :: r) = (false, t.s) :: scan r := by
  rw [scan, if_pos h, if_pos hu]; rfl
theorem scan_is (t u : Tk) (r : List Tk) (h : t.k = 1) (hs : t.s = bIs) (hu : u.k = 1) : scan (t :: u :: r) = (true, u.s) :: scan r := by
  rw [scan, if_pos h, if_neg (by omega), if_pos hs]
theorem No10.app {e r : List Tk} (h : No10 e) (k : No10 r) : No10 (e ++ r) := by
  cases e with
  | nil => exact k
  | cons t e => intro u hu; exact h u hu
theorem isK_cons (l : List Tk) (k : Nat) (hk : k ≠ 0) (h : isK (some l) k = true) : ∃ t r, l = t :: r ∧ t.k = k ∧ tl (some l) = some r ∧ hd (some l) = t := by
  cases l with
  | nil => simp [isK, hd, zTk] at h; omega
  | cons t r => exact ⟨t, r, rfl, by simpa [isK, hd] using h, rfl, rfl⟩
def Eats (out : List Leaf) (l l' : List Tk) : Prop := ∃ e, l = e ++ l' ∧ No10 e ∧ ∀ r, No10 r → scan (e ++ r) = out ++ scan r
theorem fl_eats (n g : Nat) (hU : ∀ (l l' : List Tk), ln (some l) ≤ n → (pUnit g (some l)).2 = some l' → Eats (pUnit g (some l)).1 l l') :
    ∀ (m : Nat) (l l' : List Tk), ln (some l) ≤ n → (flT (pUnit g) m (some l)).2 = some l' → Eats (flT (pUnit g) m (some l)).1 l l' := by
  intro m
  induction m with
  | zero =>
    intro l l' hn h
    simp only [flT, Option.some.injEq] at h
    subst h
    exact ⟨[], rfl, fun _ h => by simp at h, fun r _ => by simp [flT]⟩
  | succ m ih =>
    intro l l' hn h
    rw [flT] at h ⊢
    by_cases hw : (isW (some l) bAnd || isW (some l) bOr) = true
    · rw [if_pos hw] at h ⊢
      dsimp only at h ⊢
      have hk : isK (some l) 1 = true := by
        rcases (Bool.or_eq_true _ _ ▸ hw : isW (some l) bAnd = true ∨ isW (some l) bOr = true) with h | h <;> exact isW_isK _ _ h
      obtain ⟨t, r0, hl, ht, htl, hhd⟩ := isK_cons l 1 (by decide) hk
      have hts : t.s ≠ bIs := by
        intro e
        have e2 : (hd (some l)).s = bIs := by rw [hhd]; exact e
        rcases (Bool.or_eq_true _ _ ▸ hw : isW (some l) bAnd = true ∨ isW (some l) bOr = true) with h | h
        · unfold isW at h; rw [e2] at h; simp only [Bool.and_eq_true, decide_eq_true_eq] at h; exact absurd h.2 (by decide)
        · unfold isW at h; rw [e2] at h; simp only [Bool.and_eq_true, decide_eq_true_eq] at h; exact absurd h.2 (by decide)
      rw [htl] at h ⊢
      cases hp : (pUnit g (some r0)).2 with
      | none =>
        rw [hp] at h
        have : (flT (pUnit g) m none).2 = none := by
          cases m with
          | zero => rfl
          | succ m => rw [flT, isW_no, isW_no]; rfl
        rw [this] at h; cases h
      | some l2 =>
        rw [hp] at h
        subst hl
        have hn0 : ln (some r0) ≤ n := by simp [ln] at hn ⊢; omega
        obtain ⟨e2, h2, n2, s2⟩ := hU r0 l2 hn0 hp
        have hn2 : ln (some l2) ≤ n := by subst h2; simp [ln] at hn ⊢; omega
        obtain ⟨e3, h3, n3, s3⟩ := ih l2 l' hn2 h
        refine ⟨t :: (e2 ++ e3), by rw [h2, h3]; simp, fun u hu => ?_, fun r hr => ?_⟩
        · simp at hu; subst hu; omega
        · rw [List.cons_append, List.append_assoc, scan_word t _ hts (n2.app (n3.app hr)), s2 _ (n3.app hr), s3 r hr, List.append_assoc]
    · rw [if_neg hw] at h ⊢
      simp only [Option.some.injEq] at h
      subst h
      exact ⟨[], rfl, fun _ h => by simp at h, fun r _ => by simp⟩
theorem rule_eats (n g : Nat) (hU : ∀ (l l' : List Tk), ln (some l) ≤ n → (pUnit g (some l)).2 = some l' → Eats (pUnit g (some l)).1 l l')
    (l l' : List Tk) (hn : ln (some l) ≤ n) (h8 : ln (some l) ≤ 801) (h : (pRule g (some l)).2 = some l') : Eats (pRule g (some l)).1 l l' := by
  rw [pRule_flat g _ h8] at h ⊢
  dsimp only at h ⊢
  cases hp : (pUnit g (some l)).2 with
  | none =>
    rw [hp] at h
    have : (flT (pUnit g) 801 none).2 = none := by rw [flT, isW_no, isW_no]; rfl
    rw [this] at h; cases h
  | some l2 =>
    rw [hp] at h
    obtain ⟨e2, h2, n2, s2⟩ := hU l l2 hn hp
    have hn2 : ln (some l2) ≤ n := by subst h2; simp [ln] at hn ⊢; omega
    obtain ⟨e3, h3, n3, s3⟩ := fl_eats n g hU 801 l2 l' hn2 h
    refine ⟨e2 ++ e3, by rw [h2, h3]; simp, n2.app n3, fun r hr => ?_⟩
    rw [List.append_assoc, s2 _ (n3.app hr), s3 r hr, List.append_assoc]
end Go.Proofs.YtpggfgjongkihaaGreat
namespace Go.Proofs.YtpggfgjongkihaaGreat
open Go.RowKit
theorem k_cons (l : List Tk) (h : (hd (some l)).k ≠ 0) : ∃ t, l = t :: (l.drop 1) ∧ tl (some l) = some (l.drop 1) := by
  cases l with
  | nil => exact absurd rfl h
  | cons t r => exact ⟨t, rfl, rfl⟩
theorem pValue_no : pValue none = none := by
  unfold pValue pVal; rw [isW_no]; rfl
theorem pValue_some (l l' : List Tk) (h : pValue (some l) = some l') : ∃ v, l = v :: l' := by
  have key : (hd (some l)).k ≠ 0 → tl (some l) = some l' → ∃ v, l = v :: l' := by
    intro h0 h1
    obtain ⟨t, e, e2⟩ := k_cons l h0
    rw [e2] at h1
    simp only [Option.some.injEq] at h1
    exact ⟨t, by rw [e, h1]⟩
  unfold pValue at h
  by_cases hw : isW (some l) bViewer = true
  · rw [if_pos hw] at h
    refine key ?_ h
    have := isW_isK _ _ hw
    unfold isK at this
    simp only [beq_iff_eq] at this
    omega
  · rw [if_neg hw] at h
    unfold pVal at h
    by_cases h2 : (hd (some l)).k = 2
    · rw [if_pos h2] at h; exact key (by omega) h
    · rw [if_neg h2] at h
      by_cases h3 : (hd (some l)).k = 3
      · rw [if_pos h3] at h; exact key (by omega) h
      · rw [if_neg h3] at h
        by_cases h1 : (hd (some l)).k = 1
        · rw [if_pos h1] at h
          refine key (by omega) ?_
          unfold wordS at h
          split at h
          · exact h
          · split at h
            · exact h
            · split at h
              · exact h
              · cases h
        · rw [if_neg h1] at h; cases h
theorem nm_hd (s : St) (h : isK s 1 = true) : nm s = (hd s).s := by unfold nm; rw [if_pos h]
theorem nmT_some (l l' : List Tk) (h : nmT (some l) = some l') : ∃ t, l = t :: l' ∧ t.k = 1 ∧ nm (some l) = t.s := by
  by_cases hk : isK (some l) 1 = true
  · obtain ⟨t, r, hl, ht, htl, hhd⟩ := isK_cons l 1 (by decide) hk
    rw [nmT_tl _ hk, htl] at h
    simp only [Option.some.injEq] at h
    exact ⟨t, by rw [hl, h], ht, by rw [nm_hd _ hk, hhd]⟩
  · rw [nmT_not _ hk] at h; cases h
theorem mustK_some (s : St) (l' : List Tk) (k : Nat) (hk : k ≠ 0) (h : mustT s (isK s k) = some l') : ∃ t, s = some (t :: l') ∧ t.k = k := by
  cases s with
  | none => rw [mustT_none] at h; cases h
  | some l =>
    unfold mustT at h
    split at h
    · rename_i hx
      obtain ⟨t, r, hl, ht, htl, hhd⟩ := isK_cons l k hk hx
      rw [htl] at h
      simp only [Option.some.injEq] at h
      exact ⟨t, by rw [hl, h], ht⟩
    · cases h
theorem unit_eats : ∀ (n g : Nat) (l l' : List Tk), n ≤ g → n ≤ 801 → ln (some l) ≤ n → (pUnit g (some l)).2 = some l' → Eats (pUnit g (some l)).1 l l' := by
  intro n
  induction n with
  | zero => intro g l l' _ _ h; simp [ln] at h
  | succ n ih =>
    intro g l l' hg h8 hn h
    obtain ⟨g', rfl⟩ : ∃ g', g = g' + 1 := ⟨g - 1, by omega⟩
    rw [pUnit_succ] at h ⊢
    by_cases h7 : isK (some l) 7 = true
    · rw [if_pos h7] at h ⊢
      dsimp only at h ⊢
      obtain ⟨t, r0, hl, ht, htl, hhd⟩ := isK_cons l 7 (by decide) h7
      rw [htl] at h ⊢
      obtain ⟨u, hu, hk⟩ := mustK_some _ l' 8 (by decide) h
      subst hl
      have hn0 : ln (some r0) ≤ n := by simp [ln] at hn ⊢; omega
      obtain ⟨e, he, ne, se⟩ := rule_eats n g' (fun a b h1 h2 => ih g' a b (by omega) (by omega) h1 h2) r0 (u :: l') hn0 (by omega) hu
      refine ⟨t :: (e ++ [u]), by rw [he]; simp, fun x hx => ?_, fun r hr => ?_⟩
      · simp at hx; subst hx; omega
      · have n8 : No10 (u :: r) := by intro x hx; simp at hx; subst hx; omega
        have e1 := se (u :: r) n8
        rw [scan_skip u r (by omega)] at e1
        rw [List.cons_append, scan_skip t _ (by omega), List.append_assoc]
        exact e1
    · rw [if_neg h7] at h ⊢
      by_cases hN : nm (some l) = bNot
      · rw [if_pos hN] at h ⊢
        cases hx : nmT (some l) with
        | none => rw [hx, pUnit_none] at h; cases h
        | some r0 =>
          rw [hx] at h
          obtain ⟨t, hl, ht, hs⟩ := nmT_some l r0 hx
          subst hl
          have hn0 : ln (some r0) ≤ n := by simp [ln] at hn ⊢; omega
          obtain ⟨e, he, ne, se⟩ := ih g' r0 l' (by omega) (by omega) hn0 h
          refine ⟨t :: e, by rw [he]; simp, fun x hx => ?_, fun r hr => ?_⟩
          · simp at hx; subst hx; omega
          · rw [List.cons_append, scan_word t _ (by rw [← hs, hN]; decide) (ne.app hr)]
            exact se r hr
      · rw [if_neg hN] at h ⊢
        by_cases hA : nm (some l) = bAll
        · rw [if_pos hA] at h ⊢
          dsimp only at h ⊢
          obtain ⟨t, hl, ht, hs⟩ := nmT_some l l' h
          refine ⟨[t], by rw [hl]; rfl, fun x hx => ?_, fun r hr => ?_⟩
          · simp at hx; subst hx; omega
          · exact scan_word t r (by rw [← hs, hA]; decide) hr
        · rw [if_neg hA] at h ⊢
          by_cases hI : nm (some l) = bIs
          · rw [if_pos hI] at h ⊢
            dsimp only at h ⊢
            cases hx : nmT (some l) with
            | none => rw [hx, nmT_none] at h; cases h
            | some r0 =>
              rw [hx] at h
              obtain ⟨t, hl, ht, hs⟩ := nmT_some l r0 hx
              obtain ⟨u, hl2, hu, hs2⟩ := nmT_some r0 l' h
              refine ⟨[t, u], by rw [hl, hl2]; rfl, fun x hx => ?_, fun r hr => ?_⟩
              · simp at hx; subst hx; omega
              · rw [hs2]
                exact scan_is t u r ht (by rw [← hs, hI]) hu
          · rw [if_neg hI] at h ⊢
            dsimp only at h ⊢
            cases hm : mustT (nmT (some l)) (isK (nmT (some l)) 10) with
            | none => rw [hm, pValue_no] at h; cases h
            | some r1 =>
              rw [hm] at h
              obtain ⟨u, hu, huk⟩ := mustK_some _ r1 10 (by decide) hm
              obtain ⟨t, hl, ht, hs⟩ := nmT_some l _ hu
              obtain ⟨v, hv⟩ := pValue_some r1 l' h
              refine ⟨[t, u, v], by rw [hl, hv]; rfl, fun x hx => ?_, fun r hr => ?_⟩
              · simp at hx; subst hx; omega
              · rw [hs]
                exact scan_eq t u v r ht huk
/-- The leaves of a rule are what a scan over its tokens meets. -/
theorem rule_scan (g : Nat) (hg : 801 ≤ g) (l l' : List Tk) (h8 : ln (some l) ≤ 801) (h : (pRule g (some l)).2 = some l') :
    scan (eaten (some l) (some l')) = (pRule g (some l)).1 := by
  obtain ⟨e, he, ne, se⟩ := rule_eats 801 g (fun a b h1 h2 => unit_eats 801 g a b hg (by omega) h1 h2) l l' h8 h8 h
  have e0 := se [] (fun x hx => by simp at hx)
  have e1 : eaten (some l) (some l') = e := by
    unfold eaten
    rw [he]
    simp
  rw [e1]
  have e2 : scan [] = [] := by rw [scan]
  rw [e2] at e0
  simpa using e0
end Go.Proofs.YtpggfgjongkihaaGreat
namespace Go.Proofs.YtpggfgjongkihaaGreat
open Go.RowKit
theorem rows_scan (s : St) (hl : ln s ≤ 801) (h : (pRows s).2 ≠ none) : scan (rRows s).1 = (pRows s).1.getD [] := by
  unfold rRows pRows at *
  cases hk : isK s 11
  · simp only [Bool.false_eq_true, if_false, Option.getD_none]
    rw [scan]
  · simp only [hk, if_true, Option.getD_some] at h ⊢
    have hl2 : ln (pRows2 (tl s)) ≤ 801 := Nat.le_trans (ln_mustT _ _) (Nat.le_trans (ln_mustT _ _) (Nat.le_trans (ln_tl_le _) hl))
    have hst := rule_state (pRows2 (tl s)) 802 (by decide) hl2
    show scan (eaten (pRows2 (tl s)) (rRule (pRows2 (tl s)))) = _
    generalize pRows2 (tl s) = s5 at h hl2 hst ⊢
    rw [← hst]
    cases hp : (pRule 802 s5).2 with
    | none => rw [hp, mustT_none] at h; exact absurd rfl h
    | some l' =>
      cases s5 with
      | none =>
        rw [hp] at hst
        have e : rRule none = none := rRuleF_no 801
        rw [e] at hst; cases hst
      | some l => exact rule_scan 802 (by decide) l l' hl2 hp
theorem object_scan (s : St) (hl : ln s ≤ 801) (h : (pObject s).2 ≠ none) : scan (rObject s).1.rule = (pObject s).1.rule.getD [] := by
  have h1 : ln (nmT s) ≤ 801 := Nat.le_trans (ln_nmT s) hl
  have h2 : ln (pImpl (nmT s)).2 ≤ 801 := Nat.le_trans (ln_pImpl _) h1
  have e := (object_agree s hl).2 h
  rw [e]
  clear e
  unfold pObject at h ⊢
  dsimp only at h ⊢
  have h3 := none_of_ln (ln_pFields _) h
  exact rows_scan _ h2 h3
end Go.Proofs.YtpggfgjongkihaaGreat
