/- The reference: the schema that is being read, as plain data and in memory. Roles: what is reached; the reference's way and the program's way to look for circles agree. Roles: right for the reference just where they are right for the program. Names are of word bytes; a type as the reference writes it: its core, whether it is a list, when two are the same. A rule's tokens: the look over them is good, and meets the program's leaves. What both readers read is well formed. Both readers read the same schema. The same schema is right for both. The same schema is right for both: the whole. -/
import Derived.Test.YtpggfgjongkihaaGreatM13
import Derived.Test.YtpggfgjongkihaaGreatM26
namespace Go.Proofs.YtpggfgjongkihaaGreat
open Go.RowKit
structure RSch where
  roles : List RRole
  defs : List RDef
def rDef (c : RSch) (s : St) : RSch × St :=
  if nm s = bRole then (⟨c.roles ++ [(rRole (nmT s)).1], c.defs⟩, (rRole (nmT s)).2)
  else if nm s = bType then (⟨c.roles, c.defs ++ [(rObject (nmT s)).1]⟩, (rObject (nmT s)).2)
  else if nm s = bIface then (⟨c.roles, c.defs ++ [⟨1, nm (nmT s), (rFields (nmT (nmT s))).1, [], false, []⟩]⟩, (rFields (nmT (nmT s))).2)
  else if nm s = bUnion' then (⟨c.roles, c.defs ++ [(rUnion (nmT s)).1]⟩, (rUnion (nmT s)).2)
  else (c, none)
def rLoop : Nat → RSch → St → RSch × St
  | 0, c, s => (c, s)
  | f + 1, c, s => if atEnd s = true then (c, s) else rLoop f (rDef c s).1 (rDef c s).2
def rStart : St → St
  | some [] => none
  | s => s
def r00 : RSch := ⟨[], []⟩
def rParse (s : St) : RSch × St := rLoop 802 r00 (rStart s)
def checkR (x : ByteArray) : Nat := if doneS (rParse (cutS x)).2 = true then (if rightR (rParse (cutS x)).1.roles (rParse (cutS x)).1.defs = true then 0 else 2) else 1
/-- a definition ends alike for both readers -/
theorem def_state (c : RSch) (c' : PSch) (s : St) (hl : ln s ≤ 801) : (rDef c s).2 = (pDef c' s).2 := by
  have h1 : ln (nmT s) ≤ 801 := Nat.le_trans (ln_nmT s) hl
  have h2 : ln (nmT (nmT s)) ≤ 801 := Nat.le_trans (ln_nmT _) h1
  unfold rDef pDef
  split
  · dsimp only
    exact (role_agree _ h1).1
  · split
    · dsimp only
      exact (object_agree _ h1).1
    · split
      · dsimp only
        exact (fields_agree _ h2).1
      · split
        · dsimp only
          exact (union_agree _ h1).1
        · rfl
theorem ln_rDef (c : RSch) (s : St) (hl : ln s ≤ 801) : ln (rDef c s).2 ≤ ln (nmT s) := by
  rw [def_state c c00 s hl]; exact ln_pDef c00 s
theorem rLoop_stop (f : Nat) (c : RSch) (s : St) (h : atEnd s = true) : rLoop f c s = (c, s) := by
  cases f with
  | zero => rfl
  | succ f => rw [rLoop, if_pos h]
def flD (x : RDef × Value × Value × Value) : List Value := [.int .i64 x.1.sort, .string x.1.name, x.2.1, x.2.2.1, .bool x.1.ruled, x.2.2.2]
def okQ (S : Nat) (w : World) (x : RRole × Value) : Prop := w.ownsRow S 9 1 x.2 x.1.inc.length (strsV x.1.inc)
def okD (S : Nat) (w : World) (x : RDef × Value × Value × Value) : Prop := w.ownsRow S 121 5 x.2.1 x.1.fields.length (fldsV x.1.fields) ∧ w.ownsRow S 9 1 x.2.2.1 x.1.above.length (strsV x.1.above) ∧ TokSl w x.2.2.2 x.1.rule
def InQ (S : Nat) (w w' : World) : Prop := Stay 9 S w w' ∧ Stay 121 S w w' ∧ Stay 137 0 w w'
theorem TokSl.stay {w w' : World} {v : Value} {l : List Tk} (h : TokSl w v l) (hs : Stay 137 0 w w') : TokSl w' v l := by
  rcases h with h | ⟨g, off, cap, cur, h1, h2, h3⟩
  · exact Or.inl h
  · exact Or.inr ⟨g, off, cap, cur, h1, hs g _ _ (Nat.zero_le _) h2, h3⟩
theorem okQ.stays {S : Nat} {w w' : World} (h : InQ S w w') {x : RRole × Value} (hx : okQ S w x) : okQ S w' x := ownsRow_stay hx h.1
theorem okD.stays {S : Nat} {w w' : World} (h : InQ S w w') {x : RDef × Value × Value × Value} (hx : okD S w x) : okD S w' x := ⟨ownsRow_stay hx.1 h.2.1, ownsRow_stay hx.2.1 h.1, hx.2.2.stay h.2.2⟩
/-- the schema that is being read, in memory, laid open -/
structure RX (w : World) (X S : Nat) (vR vD : Value) (LR : List (RRole × Value)) (LD : List (RDef × Value × Value × Value)) : Prop where
  x : w.heap[X]? = some (.cells #[vR, vD] 62 (0, 0))
  r : RowG w S 92 2 vR flR (okQ S) LR
  d : RowG w S 96 6 vD flD (okD S) LD
theorem RX.keep {w w' : World} {X S R : Nat} {vR vD : Value} {LR : List (RRole × Value)} {LD : List (RDef × Value × Value × Value)} {cs : Array Value} {fr : Nat × Nat} (h : RX w X S vR vD LR LD) (hk : Keep R w w') (hb : w.heap[R]? = some (.cells cs 89 fr)) : RX w' X S vR vD LR LD := by
  have hst : ∀ T B, (89 : TypeId) ≠ T → Stay T B w w' := fun T B hT => Stay.of_keep hk hb hT
  have hin : InQ S w w' := ⟨hst _ _ (by decide), hst _ _ (by decide), hst _ _ (by decide)⟩
  refine ⟨?_, h.r.stays (hst _ _ (by decide)) (fun x hx => okQ.stays hin hx), h.d.stays (hst _ _ (by decide)) (fun x hx => okD.stays hin hx)⟩
  exact hst 62 0 (by decide) X _ _ (Nat.zero_le _) h.x
theorem RX.below {w w' : World} {X S : Nat} {vR vD : Value} {LR : List (RRole × Value)} {LD : List (RDef × Value × Value × Value)} (h : RX w X S vR vD LR LD) (hb : Below w.heap.size w w') : RX w' X S vR vD LR LD := by
  have hst : ∀ T B, Stay T B w w' := fun T B => Stay.of_below hb
  have hin : InQ S w w' := ⟨hst _ _, hst _ _, hst _ _⟩
  exact ⟨hst 62 0 X _ _ (Nat.zero_le _) h.x, h.r.stays (hst _ _) (fun x hx => okQ.stays hin hx), h.d.stays (hst _ _) (fun x hx => okD.stays hin hx)⟩
theorem RX.addR {w wA x3 : World} {X S : Nat} {vR vD v' : Value} {LR : List (RRole × Value)} {LD : List (RDef × Value × Value × Value)} {e : RRole × Value} {l : List Value} (h : RX w X S vR vD LR LD) (hb : Below w.heap.size w wA) (hg : wA.grownBy x3 vR.ownBlock) (ho : x3.ownsRow S 92 2 v' (LR.length + 1) (LR.flatMap flR ++ l)) (hl : l = flR e) (he : okQ S w e) : RX (x3.setCell ⟨X, 0, none⟩ v') X S v' vD (LR ++ [e]) LD := by
  subst hl
  have h2 := h.below hb
  have hX3 : x3.heap[X]? = some (.cells #[vR, vD] 62 (0, 0)) := grown_at hg h2.x (own_ne h2.r.own h2.x (by decide))
  have hst : ∀ T B, (92 : TypeId) ≠ T → (62 : TypeId) ≠ T → Stay T B w (x3.setCell ⟨X, 0, none⟩ v') := fun T B h1 h3 => ((Stay.of_below hb).trans (Stay.grown hg h2.r.own rfl h1)).trans (Stay.setT hX3 h3 0 v')
  have hin : InQ S w (x3.setCell ⟨X, 0, none⟩ v') := ⟨hst _ _ (by decide) (by decide), hst _ _ (by decide) (by decide), hst _ _ (by decide) (by decide)⟩
  refine ⟨setCell_block hX3 0 v', ⟨?_, fun x hx => ?_⟩, h.d.stays (hst _ _ (by decide) (by decide)) (fun x hx => okD.stays hin hx)⟩
  · rw [List.length_append, List.flatMap_append]
    have : ([e].flatMap flR) = flR e := by simp
    rw [this]
    exact ownsRow_stay ho (Stay.setT hX3 (by decide) 0 v')
  · rcases List.mem_append.1 hx with hx | hx
    · exact okQ.stays hin (h.r.ok x hx)
    · rw [List.mem_singleton] at hx; subst hx; exact okQ.stays hin he
theorem RX.addD {w wA x3 : World} {X S : Nat} {vR vD v' : Value} {LR : List (RRole × Value)} {LD : List (RDef × Value × Value × Value)} {e : RDef × Value × Value × Value} {l : List Value} (h : RX w X S vR vD LR LD) (hb : Below w.heap.size w wA) (hg : wA.grownBy x3 vD.ownBlock) (ho : x3.ownsRow S 96 6 v' (LD.length + 1) (LD.flatMap flD ++ l)) (hl : l = flD e) (he : okD S w e) : RX (x3.setCell ⟨X, 1, none⟩ v') X S vR v' LR (LD ++ [e]) := by
  subst hl
  have h2 := h.below hb
  have hX3 : x3.heap[X]? = some (.cells #[vR, vD] 62 (0, 0)) := grown_at hg h2.x (own_ne h2.d.own h2.x (by decide))
  have hst : ∀ T B, (96 : TypeId) ≠ T → (62 : TypeId) ≠ T → Stay T B w (x3.setCell ⟨X, 1, none⟩ v') := fun T B h1 h3 => ((Stay.of_below hb).trans (Stay.grown hg h2.d.own rfl h1)).trans (Stay.setT hX3 h3 1 v')
  have hin : InQ S w (x3.setCell ⟨X, 1, none⟩ v') := ⟨hst _ _ (by decide) (by decide), hst _ _ (by decide) (by decide), hst _ _ (by decide) (by decide)⟩
  refine ⟨setCell_block hX3 1 v', h.r.stays (hst _ _ (by decide) (by decide)) (fun x hx => okQ.stays hin hx), ⟨?_, fun x hx => ?_⟩⟩
  · rw [List.length_append, List.flatMap_append]
    have : ([e].flatMap flD) = flD e := by simp
    rw [this]
    exact ownsRow_stay ho (Stay.setT hX3 (by decide) 1 v')
  · rcases List.mem_append.1 hx with hx | hx
    · exact okD.stays hin (h.d.ok x hx)
    · rw [List.mem_singleton] at hx; subst hx; exact okD.stays hin he
theorem RowG.at {β : Type} {w : World} {B e size g n cap : Nat} {flat : β → List Value} {ok : World → β → Prop} {L : List β} (h : RowG w B e size (.slice (some ⟨g, 0, none⟩) n cap) flat ok L) (hf : ∀ x, (flat x).length = size) (i j : Nat) (x : β) (hx : L[i]? = some x) (hj : j < size) : w.cell? ⟨g, i * size + j, none⟩ = (flat x)[j]? := by
  have hil := (List.getElem?_eq_some_iff.1 hx).1
  have key : ∀ (L : List β) (i : Nat), L[i]? = some x → (L.flatMap flat)[i * size + j]? = (flat x)[j]? := by
    intro L
    induction L with
    | nil => intro i hi; simp at hi
    | cons y L ih =>
      intro i hi
      rw [List.flatMap_cons]
      match i, hi with
      | 0, hi =>
        simp at hi
        subst hi
        rw [List.getElem?_append_left (by rw [hf]; omega)]
        congr 1; omega
      | i + 1, hi =>
        rw [List.getElem?_append_right (by rw [hf]; rw [Nat.add_mul]; omega), hf, ← ih i (by simpa using hi)]
        congr 1
        rw [Nat.add_mul]; omega
  rcases h.own.2 with ⟨e0, _⟩ | ⟨g', cap', cur, hv, hg, hh, h1, h2, h3, h4⟩
  · cases e0
  · cases hv
    rw [cell_of_block hh, ← key L i hx, ← h4, List.getElem?_take_of_lt, Array.getElem?_toList]
    have : (i + 1) * size ≤ L.length * size := Nat.mul_le_mul_right _ hil
    rw [Nat.add_mul] at this
    omega
theorem RX.roles {w : World} {X S : Nat} {vR vD : Value} {LR : List (RRole × Value)} {LD : List (RDef × Value × Value × Value)} (h : RX w X S vR vD LR LD) : RolesAt w vR (LR.map Prod.fst) := by
  obtain ⟨a, cap, hv⟩ := own_slice h.r.own
  refine ⟨a, cap, by rw [hv]; simp, ?_⟩
  rcases h.r.own.2 with ⟨e0, e1⟩ | ⟨g, cap', cur, hv', _⟩
  · left
    have : LR = [] := List.eq_nil_of_length_eq_zero e1
    rw [this]; rfl
  · right
    rw [hv] at hv'
    cases hv'
    refine ⟨g, rfl, fun j r hj => ?_⟩
    rw [List.getElem?_map] at hj
    cases hx : LR[j]? with
    | none => rw [hx] at hj; cases hj
    | some y =>
      rw [hx] at hj
      cases hj
      have hr := h.r
      rw [hv] at hr
      have c0 := hr.at (fun _ => rfl) j 0 y hx (by decide)
      have c1 := hr.at (fun _ => rfl) j 1 y hx (by decide)
      exact ⟨c0, y.2, c1, StrsAt.of_own (hr.ok y (List.mem_of_getElem? hx))⟩
theorem FldsAt.of_own {w : World} {base : Nat} {v : Value} {l : List RFld} (h : w.ownsRow base 121 5 v l.length (fldsV l)) : FldsAt w v l := by
  obtain ⟨a, cap, hv⟩ := own_slice h
  refine ⟨a, cap, hv, ?_⟩
  rcases h.2 with ⟨e0, e1⟩ | ⟨g, cap', cur, hv', _⟩
  · left; exact List.eq_nil_of_length_eq_zero e1
  · right
    rw [hv] at hv'
    cases hv'
    rw [hv] at h
    have hr : RowG w base 121 5 (.slice (some ⟨g, 0, none⟩) l.length cap) (fun f => (fldV f).toList) (fun _ _ => True) l := ⟨h, fun _ _ => trivial⟩
    refine ⟨g, rfl, fun j f hj => ?_⟩
    exact ⟨hr.at (fun _ => rfl) j 0 f hj (by decide), hr.at (fun _ => rfl) j 1 f hj (by decide), hr.at (fun _ => rfl) j 2 f hj (by decide), hr.at (fun _ => rfl) j 3 f hj (by decide), hr.at (fun _ => rfl) j 4 f hj (by decide)⟩
theorem RX.defs {w : World} {X S : Nat} {vR vD : Value} {LR : List (RRole × Value)} {LD : List (RDef × Value × Value × Value)} (h : RX w X S vR vD LR LD) : DefsAt w vD (LD.map Prod.fst) := by
  obtain ⟨a, cap, hv⟩ := own_slice h.d.own
  refine ⟨a, cap, by rw [hv]; simp, ?_⟩
  rcases h.d.own.2 with ⟨e0, e1⟩ | ⟨g, cap', cur, hv', _⟩
  · left
    have : LD = [] := List.eq_nil_of_length_eq_zero e1
    rw [this]; rfl
  · right
    rw [hv] at hv'
    cases hv'
    refine ⟨g, rfl, fun j r hj => ?_⟩
    rw [List.getElem?_map] at hj
    cases hx : LD[j]? with
    | none => rw [hx] at hj; cases hj
    | some y =>
      rw [hx] at hj
      cases hj
      have hr := h.d
      rw [hv] at hr
      obtain ⟨o1, o2, o3⟩ := hr.ok y (List.mem_of_getElem? hx)
      exact ⟨hr.at (fun _ => rfl) j 0 y hx (by decide), hr.at (fun _ => rfl) j 1 y hx (by decide), hr.at (fun _ => rfl) j 4 y hx (by decide), y.2.1, y.2.2.1, y.2.2.2, hr.at (fun _ => rfl) j 2 y hx (by decide), hr.at (fun _ => rfl) j 3 y hx (by decide), hr.at (fun _ => rfl) j 5 y hx (by decide), FldsAt.of_own o1, StrsAt.of_own o2, o3⟩
end Go.Proofs.YtpggfgjongkihaaGreat
namespace Go.Proofs.YtpggfgjongkihaaGreat
open Go.RowKit
/-- from a to b by steps of R, any number -/
inductive Reach {α : Type} (R : α → α → Prop) : α → α → Prop
  | refl (a : α) : Reach R a a
  | step {a b c : α} : Reach R a b → R b c → Reach R a c
theorem Reach.trans {α : Type} {R : α → α → Prop} {a b c : α} (h : Reach R a b) (k : Reach R b c) : Reach R a c := by
  induction k with
  | refl => exact h
  | step _ r ih => exact Reach.step ih r
theorem mem_addIn : ∀ (inc l : List ByteArray) (y : ByteArray), y ∈ addIn inc l ↔ y ∈ l ∨ y ∈ inc
  | [], l, y => by simp [addIn]
  | x :: r, l, y => by
    rw [addIn, mem_addIn r]
    cases h : memB x l
    · simp only [Bool.false_eq_true, if_false, List.mem_append, List.mem_cons, List.not_mem_nil, or_false]
      constructor
      · rintro ((a | a) | a)
        · exact Or.inl a
        · exact Or.inr (Or.inl a)
        · exact Or.inr (Or.inr a)
      · rintro (a | a | a)
        · exact Or.inl (Or.inl a)
        · exact Or.inl (Or.inr a)
        · exact Or.inr a
    · have hx := (memB_true x l).1 h
      simp only [if_true, List.mem_cons]
      constructor
      · rintro (a | a)
        · exact Or.inl a
        · exact Or.inr (Or.inr a)
      · rintro (a | a | a)
        · exact Or.inl a
        · subst a; exact Or.inl hx
        · exact Or.inr a
theorem addIn_keeps : ∀ (inc l : List ByteArray) (j : Nat) (y : ByteArray), l[j]? = some y → (addIn inc l)[j]? = some y
  | [], l, j, y, h => h
  | x :: r, l, j, y, h => by
    rw [addIn]
    refine addIn_keeps r _ j y ?_
    split
    · exact h
    · rw [List.getElem?_append_left (List.getElem?_eq_some_iff.1 h).1]; exact h
/-- what the reference finds that a role has -/
theorem hadF_mem (roles : List RRole) (x : ByteArray) : ∀ (f i : Nat) (l : List ByteArray), mu roles i l < f →
    (∀ y ∈ l, Reach (fun a b => b ∈ incAt roles a) x y) → (∀ j y, j < i → l[j]? = some y → ∀ z ∈ incAt roles y, z ∈ l) → x ∈ l →
    ∀ y, y ∈ hadF roles f i l ↔ Reach (fun a b => b ∈ incAt roles a) x y
  | 0, i, l, h, _, _, _ => by omega
  | f + 1, i, l, h, h1, h2, h3 => by
    intro y
    rw [hadF]
    cases hx : l[i]? with
    | none =>
      simp only
      refine ⟨h1 y, fun hr => ?_⟩
      induction hr with
      | refl => exact h3
      | step _ r ih =>
        obtain ⟨j, hj⟩ := List.mem_iff_getElem?.1 ih
        refine h2 j _ ?_ hj _ r
        have := (List.getElem?_eq_some_iff.1 hj).1
        have := List.getElem?_eq_none_iff.1 hx
        omega
    | some z =>
      simp only
      have hs := mu_step roles i l z hx
      refine hadF_mem roles x f (i + 1) _ (by omega) ?_ ?_ ?_ y
      · intro y hy
        rcases (mem_addIn _ _ _).1 hy with a | a
        · exact h1 y a
        · exact Reach.step (h1 z (List.mem_of_getElem? hx)) a
      · intro j y hj hy u hu
        rw [mem_addIn]
        have hjl : j < l.length := by have := (List.getElem?_eq_some_iff.1 hx).1; omega
        have hy2 : l[j]? = some y := by
          have := addIn_keeps (incAt roles z) l j _ (List.getElem?_eq_getElem hjl)
          rw [this] at hy
          rw [List.getElem?_eq_getElem hjl]; exact hy
        by_cases e : j = i
        · subst e
          rw [hx] at hy2
          cases hy2
          exact Or.inr hu
        · exact Or.inl (h2 j y (by omega) hy2 u hu)
      · rw [mem_addIn]; exact Or.inl h3
theorem hadR_mem (roles : List RRole) (x y : ByteArray) : y ∈ hadR roles x ↔ Reach (fun a b => b ∈ incAt roles a) x y := by
  unfold hadR
  refine hadF_mem roles x _ 0 [x] (by omega) ?_ ?_ (by simp) y
  · intro y hy
    simp at hy
    subst hy
    exact Reach.refl _
  · intro j y hj; omega
/-- one step by places -/
def edJ (roles : List RRole) (i j : Nat) : Prop := ∃ y ∈ incAtJ roles i, (idxI (roles.map RRole.name) y).toNat = j
theorem mu_fold (nms : List ByteArray) : ∀ (ys : List ByteArray) (st : OS), (∀ y ∈ ys, (idxI nms y).toNat < st.2.length) → muI (ys.foldl (incStep nms) st) ≤ muI st ∧ (ys.foldl (incStep nms) st).2.length = st.2.length
  | [], st, _ => ⟨Nat.le_refl _, rfl⟩
  | y :: ys, st, h => by
    rw [List.foldl_cons]
    have h1 := muI_step nms st y (h y (by simp))
    have h2 := mu_fold nms ys (incStep nms st y) (fun z hz => by rw [h1.2]; exact h z (by simp [hz]))
    exact ⟨Nat.le_trans h2.1 h1.1, h2.2.trans h1.2⟩
/-- what a step adds -/
theorem step_mem (nms : List ByteArray) (st : OS) (y : ByteArray) (h : (idxI nms y).toNat < st.2.length) :
    (∀ j, (incStep nms st y).2.getD j false = true ↔ st.2.getD j false = true ∨ j = (idxI nms y).toNat) ∧
    (∀ j, j ∈ (incStep nms st y).1 → j ∈ st.1 ∨ j = (idxI nms y).toNat) ∧
    (∀ j, j ∈ st.1 → j ∈ (incStep nms st y).1) ∧
    (∀ j, (incStep nms st y).2.getD j false = true → st.2.getD j false = true ∨ j ∈ (incStep nms st y).1) := by
  unfold incStep
  generalize (idxI nms y).toNat = k at *
  cases hk : st.2.getD k false
  · simp only [Bool.false_eq_true, if_false]
    have key : ∀ j, (st.2.set k true).getD j false = true ↔ st.2.getD j false = true ∨ j = k := by
      intro j
      rw [List.getD_eq_getElem?_getD, List.getD_eq_getElem?_getD, List.getElem?_set]
      by_cases e : k = j
      · subst e; simp [h]
      · rw [if_neg e]
        constructor
        · exact Or.inl
        · rintro (a | a)
          · exact a
          · exact absurd a.symm e
    refine ⟨key, ?_, ?_, ?_⟩
    · intro j hj
      rcases List.mem_append.1 hj with a | a
      · exact Or.inl a
      · exact Or.inr (by simpa using a)
    · intro j hj; exact List.mem_append.2 (Or.inl hj)
    · intro j hj
      rcases (key j).1 hj with a | a
      · exact Or.inl a
      · subst a; exact Or.inr (by simp)
  · simp only [if_true]
    refine ⟨fun j => ⟨Or.inl, ?_⟩, fun j => Or.inl, fun j h => h, fun j => Or.inl⟩
    rintro (a | a)
    · exact a
    · subst a; exact hk
theorem fold_mem (nms : List ByteArray) : ∀ (ys : List ByteArray) (st : OS), (∀ y ∈ ys, (idxI nms y).toNat < st.2.length) →
    (∀ j, (ys.foldl (incStep nms) st).2.getD j false = true ↔ st.2.getD j false = true ∨ ∃ y ∈ ys, (idxI nms y).toNat = j) ∧
    (∀ j, j ∈ (ys.foldl (incStep nms) st).1 → j ∈ st.1 ∨ ∃ y ∈ ys, (idxI nms y).toNat = j) ∧
    (∀ j, j ∈ st.1 → j ∈ (ys.foldl (incStep nms) st).1) ∧
    (∀ j, (ys.foldl (incStep nms) st).2.getD j false = true → st.2.getD j false = true ∨ j ∈ (ys.foldl (incStep nms) st).1)
  | [], st, _ => ⟨fun j => ⟨Or.inl, fun h => by rcases h with h | ⟨y, hy, _⟩; exact h; simp at hy⟩, fun j => Or.inl, fun j h => h, fun j => Or.inl⟩
  | y :: ys, st, h => by
    rw [List.foldl_cons]
    obtain ⟨a1, a2, a3, a4⟩ := step_mem nms st y (h y (by simp))
    have h1 := muI_step nms st y (h y (by simp))
    obtain ⟨b1, b2, b3, b4⟩ := fold_mem nms ys (incStep nms st y) (fun z hz => by rw [h1.2]; exact h z (by simp [hz]))
    refine ⟨fun j => ?_, fun j hj => ?_, fun j hj => b3 j (a3 j hj), fun j hj => ?_⟩
    · rw [b1, a1]
      constructor
      · rintro ((a | a) | ⟨z, hz, e⟩)
        · exact Or.inl a
        · exact Or.inr ⟨y, by simp, a.symm⟩
        · exact Or.inr ⟨z, by simp [hz], e⟩
      · rintro (a | ⟨z, hz, e⟩)
        · exact Or.inl (Or.inl a)
        · rcases List.mem_cons.1 hz with q | q
          · subst q; exact Or.inl (Or.inr e.symm)
          · exact Or.inr ⟨z, q, e⟩
    · rcases b2 j hj with a | ⟨z, hz, e⟩
      · rcases a2 j a with q | q
        · exact Or.inl q
        · exact Or.inr ⟨y, by simp, q.symm⟩
      · exact Or.inr ⟨z, by simp [hz], e⟩
    · rcases b4 j hj with a | a
      · rcases a4 j a with q | q
        · exact Or.inl q
        · exact Or.inr (b3 j q)
      · exact Or.inr a
theorem incl_end (roles : List RRole) (p : Nat) (st : OS) (h0 : st.1.length = 0)
    (h1 : ∀ j, st.2.getD j false = true → ∃ k, Reach (edJ roles) p k ∧ edJ roles k j)
    (h3 : ∀ k, (k = p ∨ st.2.getD k false = true) → k ∈ st.1 ∨ ∀ j, edJ roles k j → st.2.getD j false = true) (j : Nat) :
    st.2.getD j false = true ↔ ∃ k, Reach (edJ roles) p k ∧ edJ roles k j := by
  have hn : st.1 = [] := List.eq_nil_of_length_eq_zero h0
  have key : ∀ k, Reach (edJ roles) p k → k = p ∨ st.2.getD k false = true := by
    intro k hk
    induction hk with
    | refl => exact Or.inl rfl
    | step _ r ih =>
      right
      rcases h3 _ ih with a | a
      · rw [hn] at a; simp at a
      · exact a _ r
  refine ⟨h1 j, ?_⟩
  rintro ⟨k, hk, he⟩
  rcases h3 k (key k hk) with a | a
  · rw [hn] at a; simp at a
  · exact a j he
/-- what the program reaches from place p by one step or more -/
theorem inclF_mem (roles : List RRole) (p : Nat) (hin : ∀ i, ∀ y ∈ incAtJ roles i, (idxI (roles.map RRole.name) y).toNat < roles.length) :
    ∀ (f : Nat) (st : OS), muI st ≤ f → st.2.length = roles.length →
    (∀ j, st.2.getD j false = true → ∃ k, Reach (edJ roles) p k ∧ edJ roles k j) →
    (∀ j ∈ st.1, Reach (edJ roles) p j) →
    (∀ k, (k = p ∨ st.2.getD k false = true) → k ∈ st.1 ∨ ∀ j, edJ roles k j → st.2.getD j false = true) →
    ∀ j, (inclF roles f st).getD j false = true ↔ ∃ k, Reach (edJ roles) p k ∧ edJ roles k j
  | 0, st, h, _, h1, _, h3 => by
    intro j
    rw [inclF]
    exact incl_end roles p st (by unfold muI at h; omega) h1 h3 j
  | f + 1, st, h, hl, h1, h2, h3 => by
    intro j
    rw [inclF]
    by_cases h0 : st.1.length = 0
    · rw [if_pos h0]
      exact incl_end roles p st h0 h1 h3 j
    · rw [if_neg h0]
      have hne : st.1 ≠ [] := fun e => h0 (by rw [e]; rfl)
      have hlast : st.1.getLastD 0 = st.1.getLast hne := by
        rw [List.getLastD_eq_getLast?, List.getLast?_eq_some_getLast hne]; rfl
      have hsplit : st.1 = st.1.dropLast ++ [st.1.getLastD 0] := by rw [hlast]; exact (List.dropLast_concat_getLast hne).symm
      generalize hq : st.1.getLastD 0 = q at *
      have hqm : q ∈ st.1 := by rw [hsplit]; simp
      unfold incRound
      rw [hq]
      have hb : ∀ y ∈ incAtJ roles q, (idxI (roles.map RRole.name) y).toNat < ((st.1.dropLast, st.2) : OS).2.length := fun y hy => by
        show _ < st.2.length
        rw [hl]; exact hin q y hy
      have hm := mu_fold (roles.map RRole.name) (incAtJ roles q) (st.1.dropLast, st.2) hb
      obtain ⟨b1, b2, b3, b4⟩ := fold_mem (roles.map RRole.name) (incAtJ roles q) (st.1.dropLast, st.2) hb
      generalize (incAtJ roles q).foldl (incStep (roles.map RRole.name)) (st.1.dropLast, st.2) = st' at *
      simp only at b1 b2 b3 b4
      have hmu : muI (st.1.dropLast, st.2) + 1 = muI st := by
        unfold muI
        simp only [List.length_dropLast]
        omega
      refine inclF_mem roles p hin f st' (by omega) (hm.2.trans hl) ?_ ?_ ?_ j
      · intro j hj
        rcases (b1 j).1 hj with a | ⟨y, hy, e⟩
        · exact h1 j a
        · exact ⟨q, h2 q hqm, y, hy, e⟩
      · intro j hj
        rcases b2 j hj with a | ⟨y, hy, e⟩
        · exact h2 j (by rw [hsplit]; exact List.mem_append.2 (Or.inl a))
        · exact Reach.step (h2 q hqm) ⟨y, hy, e⟩
      · intro k hk
        by_cases e : k = q
        · right
          intro j hj
          subst e
          obtain ⟨y, hy, e⟩ := hj
          exact (b1 j).2 (Or.inr ⟨y, hy, e⟩)
        · have hk2 : (k = p ∨ st.2.getD k false = true) ∨ k ∈ st'.1 := by
            rcases hk with a | a
            · exact Or.inl (Or.inl a)
            · rcases b4 k a with x | x
              · exact Or.inl (Or.inr x)
              · exact Or.inr x
          rcases hk2 with a | a
          · rcases h3 k a with x | x
            · left
              rw [hsplit] at x
              rcases List.mem_append.1 x with x | x
              · exact b3 k x
              · exact absurd (by simpa using x) e
            · right
              intro j hj
              exact (b1 j).2 (Or.inl (x j hj))
          · exact Or.inl a
end Go.Proofs.YtpggfgjongkihaaGreat
namespace Go.Proofs.YtpggfgjongkihaaGreat
open Go.RowKit
theorem idx_any {α : Type} (g : α → ByteArray) (l : List α) (x : ByteArray) (h : ¬ idxI (l.map g) x < 0) : ∃ (k : Nat) (a : α), idxI (l.map g) x = k ∧ l[k]? = some a ∧ g a = x ∧ k < l.length := by
  have key : ∀ (l : List α) (n : Nat), ¬ idxF (l.map g) x n < 0 → ∃ (k : Nat) (a : α), idxF (l.map g) x n = ((n + k : Nat) : Int) ∧ l[k]? = some a ∧ g a = x := by
    intro l
    induction l with
    | nil => intro n hn; exact absurd (show (-1 : Int) < 0 by decide) hn
    | cons y l ih =>
      intro n hn
      rw [List.map_cons, idxF] at hn ⊢
      by_cases e : g y = x
      · rw [if_pos e]; exact ⟨0, y, by simp, by simp, e⟩
      · rw [if_neg e] at hn ⊢
        obtain ⟨k, a, h1, h2, h3⟩ := ih (n + 1) hn
        exact ⟨k + 1, a, by rw [h1]; congr 1; omega, by simpa using h2, h3⟩
  obtain ⟨k, a, h1, h2, h3⟩ := key l 0 h
  rw [Nat.zero_add] at h1
  exact ⟨k, a, h1, h2, h3, (List.getElem?_eq_some_iff.1 h2).1⟩
theorem idx_mem (l : List ByteArray) (x : ByteArray) : (¬ idxI l x < 0) ↔ x ∈ l := by
  constructor
  · intro h
    have h' : ¬ idxI (l.map id) x < 0 := by rw [List.map_id]; exact h
    obtain ⟨k, a, _, h2, h3, _⟩ := idx_any id l x h'
    rw [← h3]; exact List.mem_of_getElem? h2
  · intro h hn
    obtain ⟨k, hk⟩ := List.mem_iff_getElem?.1 h
    have key : ∀ (l : List ByteArray) (n : Nat), x ∈ l → 0 ≤ idxF l x n := by
      intro l
      induction l with
      | nil => intro n h; simp at h
      | cons y l ih =>
        intro n h
        rw [idxF]
        by_cases e : y = x
        · rw [if_pos e]; omega
        · rw [if_neg e]
          rcases List.mem_cons.1 h with q | q
          · exact absurd q.symm e
          · exact ih _ q
    have := key l 0 h
    unfold idxI at hn
    omega
theorem reach_first {α : Type} {R : α → α → Prop} {a b : α} (h : Reach R a b) : ∀ c, R b c → ∃ d, R a d ∧ Reach R d c := by
  induction h with
  | refl => intro c hc; exact ⟨c, hc, Reach.refl _⟩
  | step _ r ih =>
    intro c hc
    obtain ⟨d, h1, h2⟩ := ih _ r
    exact ⟨d, h1, Reach.step h2 hc⟩
theorem reach_last {α : Type} {R : α → α → Prop} {b c : α} (h : Reach R b c) : ∀ a, R a b → ∃ d, Reach R a d ∧ R d c := by
  induction h with
  | refl => intro a ha; exact ⟨a, Reach.refl _, ha⟩
  | step _ r ih =>
    intro a ha
    obtain ⟨d, h1, h2⟩ := ih a ha
    exact ⟨_, Reach.step h1 h2, r⟩
theorem incAt_at (roles : List RRole) (k : Nat) (r : RRole) (x : ByteArray) (h : idxI (roles.map RRole.name) x = k) (hr : roles[k]? = some r) : incAt roles x = r.inc := by
  unfold incAt
  rw [if_neg (by omega), h, Int.toNat_natCast, hr]; rfl
theorem incAtJ_at (roles : List RRole) (k : Nat) (r : RRole) (hr : roles[k]? = some r) : incAtJ roles k = r.inc := by
  unfold incAtJ; rw [hr]
theorem reach_names (roles : List RRole) (hn : (roles.map RRole.name).Nodup) (hK : ∀ r ∈ roles, ∀ y ∈ r.inc, y ∈ roles.map RRole.name) {i : Nat} {r : RRole} (hr : roles[i]? = some r) {j : Nat} (h : Reach (edJ roles) i j) : ∃ r', roles[j]? = some r' ∧ Reach (fun a b => b ∈ incAt roles a) r.name r'.name := by
  induction h with
  | refl => exact ⟨r, hr, Reach.refl _⟩
  | @step b c _ he ih =>
    obtain ⟨rb, hb, hreach⟩ := ih
    obtain ⟨y, hy, e⟩ := he
    rw [incAtJ_at roles b rb hb] at hy
    have hym := hK rb (List.mem_of_getElem? hb) y hy
    obtain ⟨k, rc, h1, h2, h3, _⟩ := idx_any RRole.name roles y ((idx_mem _ _).2 hym)
    rw [h1, Int.toNat_natCast] at e
    subst e
    refine ⟨rc, h2, Reach.step hreach ?_⟩
    have hbn : (roles.map RRole.name)[b]? = some rb.name := by rw [List.getElem?_map, hb]; rfl
    rw [incAt_at roles b rb rb.name (idx_nodup _ _ _ hn hbn) hb, h3]
    exact hy
theorem reach_places (roles : List RRole) (hK : ∀ r ∈ roles, ∀ y ∈ r.inc, y ∈ roles.map RRole.name) {a b : ByteArray} (ha : a ∈ roles.map RRole.name) (h : Reach (fun a b => b ∈ incAt roles a) a b) : b ∈ roles.map RRole.name ∧ Reach (edJ roles) (idxI (roles.map RRole.name) a).toNat (idxI (roles.map RRole.name) b).toNat := by
  induction h with
  | refl => exact ⟨ha, Reach.refl _⟩
  | @step b c _ he ih =>
    obtain ⟨hb, hreach⟩ := ih
    obtain ⟨k, rb, h1, h2, h3, _⟩ := idx_any RRole.name roles b ((idx_mem _ _).2 hb)
    rw [incAt_at roles k rb b h1 h2] at he
    refine ⟨hK rb (List.mem_of_getElem? h2) c he, Reach.step hreach ?_⟩
    rw [h1, Int.toNat_natCast]
    exact ⟨c, by rw [incAtJ_at roles k rb h2]; exact he, rfl⟩
theorem circle_agree (roles : List RRole) (hn : (roles.map RRole.name).Nodup) (hK : ∀ r ∈ roles, ∀ y ∈ r.inc, y ∈ roles.map RRole.name) : (roles.all (roleOk roles)) = (List.range roles.length).all fun i => !(inclF roles (2 * roles.length + 1) ([i], List.replicate roles.length false)).getD i false := by
  have hin : ∀ i, ∀ y ∈ incAtJ roles i, (idxI (roles.map RRole.name) y).toNat < roles.length := by
    intro i y hy
    cases hr : roles[i]? with
    | none => unfold incAtJ at hy; rw [hr] at hy; simp at hy
    | some r =>
      rw [incAtJ_at roles i r hr] at hy
      obtain ⟨k, rc, h1, h2, h3, h4⟩ := idx_any RRole.name roles y ((idx_mem _ _).2 (hK r (List.mem_of_getElem? hr) y hy))
      rw [h1, Int.toNat_natCast]; exact h4
  have hfr : ∀ j, (List.replicate roles.length false).getD j false = false := by
    intro j
    rw [List.getD_eq_getElem?_getD, List.getElem?_replicate]
    split <;> rfl
  have hP : ∀ i, ((inclF roles (2 * roles.length + 1) ([i], List.replicate roles.length false)).getD i false = true ↔ ∃ k, Reach (edJ roles) i k ∧ edJ roles k i) := by
    intro i
    refine inclF_mem roles i hin _ _ ?_ (by simp) ?_ ?_ ?_ i
    · unfold muI falses
      simp [List.countP_replicate]
    · intro j hj
      rw [hfr j] at hj; cases hj
    · intro j hj
      simp at hj
      subst hj
      exact Reach.refl _
    · intro k hk
      rcases hk with e | e
      · left; simp [e]
      · rw [hfr k] at e; cases e
  rw [Bool.eq_iff_iff, List.all_eq_true, List.all_eq_true]
  constructor
  · intro h i hi
    rw [List.mem_range] at hi
    cases hb : (inclF roles (2 * roles.length + 1) ([i], List.replicate roles.length false)).getD i false
    · rfl
    · exfalso
      obtain ⟨k, h1, h2⟩ := (hP i).1 hb
      obtain ⟨j, h3, h4⟩ := reach_first h1 i h2
      have hr := List.getElem?_eq_getElem hi
      obtain ⟨y, hy, e⟩ := h3
      rw [incAtJ_at roles i _ hr] at hy
      have hym := hK _ (List.mem_of_getElem? hr) y hy
      obtain ⟨k', rc, q1, q2, q3, _⟩ := idx_any RRole.name roles y ((idx_mem _ _).2 hym)
      rw [q1, Int.toNat_natCast] at e
      subst e
      obtain ⟨r', q4, q5⟩ := reach_names roles hn hK q2 h4
      rw [hr] at q4
      cases q4
      rw [q3] at q5
      have hok := h _ (List.mem_of_getElem? hr)
      unfold roleOk at hok
      rw [List.all_eq_true] at hok
      have := hok y hy
      unfold incOk at this
      rw [Bool.and_eq_true, Bool.not_eq_true'] at this
      have hm := (memB_true _ _).2 ((hadR_mem roles y _).2 q5)
      rw [this.2] at hm; cases hm
  · intro h r hr
    unfold roleOk
    rw [List.all_eq_true]
    intro y hy
    unfold incOk
    have hym := hK r hr y hy
    rw [decide_eq_true (by have := (idx_mem _ _).2 hym; omega), Bool.true_and, Bool.not_eq_true']
    apply memB_false
    intro hm
    have hreach := (hadR_mem roles y _).1 hm
    obtain ⟨_, hpl⟩ := reach_places roles hK hym hreach
    obtain ⟨i, hi⟩ := List.mem_iff_getElem?.1 hr
    have hil := (List.getElem?_eq_some_iff.1 hi).1
    have hbn : (roles.map RRole.name)[i]? = some r.name := by rw [List.getElem?_map, hi]; rfl
    rw [idx_nodup _ _ _ hn hbn, Int.toNat_natCast] at hpl
    obtain ⟨d, h1, h2⟩ := reach_last hpl i ⟨y, by rw [incAtJ_at roles i r hi]; exact hy, rfl⟩
    have := h i (List.mem_range.2 hil)
    rw [(hP i).2 ⟨d, h1, h2⟩] at this
    cases this
/-- roles: right for both, or for none -/
theorem roles_agree (roles : List RRole) : rolesR roles = rolesPB roles := by
  unfold rolesR rolesPB
  rw [apart_nodup]
  cases hn : nodupB (roles.map RRole.name)
  · rw [Bool.and_false, Bool.false_and]
  · rw [Bool.and_true, Bool.true_and]
    cases hK : (roles.all fun r => r.inc.all fun y => memB y (roles.map RRole.name))
    · rw [Bool.false_and]
      cases hR : roles.all (roleOk roles)
      · rfl
      · exfalso
        rw [List.all_eq_true] at hR
        have : (roles.all fun r => r.inc.all fun y => memB y (roles.map RRole.name)) = true := by
          rw [List.all_eq_true]
          intro r hr
          rw [List.all_eq_true]
          intro y hy
          have h1 := hR r hr
          unfold roleOk at h1
          rw [List.all_eq_true] at h1
          have h2 := h1 y hy
          unfold incOk at h2
          rw [Bool.and_eq_true, decide_eq_true_eq] at h2
          exact (memB_true _ _).2 ((idx_mem _ _).1 (by omega))
        rw [this] at hK; cases hK
    · rw [Bool.true_and]
      refine circle_agree roles ((nodupB_iff _).1 hn) ?_
      intro r hr y hy
      rw [List.all_eq_true] at hK
      have h1 := hK r hr
      rw [List.all_eq_true] at h1
      exact (memB_true _ _).1 (h1 y hy)
end Go.Proofs.YtpggfgjongkihaaGreat
namespace Go.Proofs.YtpggfgjongkihaaGreat
open Go.RowKit
/-- a name: of word bytes, and not empty -/
def isNm (n : ByteArray) : Prop := 0 < n.size ∧ ∀ b ∈ n.data.toList, inB wordB b = true
def wdT (t : Tk) : Prop := t.k = 1 → ∀ b ∈ t.s.data.toList, inB wordB b = true
theorem lex1_wd (l : List UInt8) (x : Tk × Nat) (h : lex1 l = some x) : wdT x.1 := by
  unfold lex1 at h
  split at h
  · cases h
  · rename_i c r
    split at h
    · cases h
      intro _ b hb
      exact runLen_take _ wordB b (by simpa [ofB] using hb)
    · split at h
      · cases hn : numR (c :: r) with
        | none => rw [hn] at h; cases h
        | some y => rw [hn] at h; cases h; intro e; cases e
      · split at h
        · cases hn : strR r [] 1 with
          | none => rw [hn] at h; cases h
          | some y => rw [hn] at h; cases h; intro e; cases e
        · split at h
          · cases h; intro e; cases e
          · cases hn : signAt signsB.data.toList c 5 with
            | none => rw [hn] at h; cases h
            | some i => rw [hn] at h; cases h; intro _ b hb; simp at hb
theorem lexF_wd : ∀ (f : Nat) (l : List UInt8) (ts : List Tk), lexF f l = some ts → ∀ t ∈ ts, wdT t := by
  intro f
  induction f with
  | zero => intro l ts h; cases h
  | succ f ih =>
    intro l ts h
    match l with
    | [] => cases h; intro t ht; cases ht
    | c :: r =>
      simp only [lexF] at h
      by_cases h1 : inB blankB c = true
      · rw [if_pos h1] at h; exact ih r ts h
      rw [if_neg h1] at h
      by_cases h2 : c = 35
      · rw [if_pos h2] at h; exact ih _ ts h
      rw [if_neg h2] at h
      cases hx : lex1 (c :: r) with
      | none => rw [hx] at h; cases h
      | some x =>
        rw [hx] at h
        simp only at h
        cases hy : lexF f ((c :: r).drop x.2) with
        | none => rw [hy] at h; cases h
        | some ts' =>
          rw [hy] at h
          simp only [Option.map_some, Option.some.injEq] at h
          subst h
          intro t ht
          rcases List.mem_cons.1 ht with e | e
          · rw [e]; exact lex1_wd _ _ hx
          · exact ih _ ts' hy t e
theorem cutS_wd (s : ByteArray) (ts : List Tk) (h : cutS s = some ts) : ∀ t ∈ ts, wdT t := by
  unfold cutS at h
  by_cases h0 : 4000 < s.size
  · rw [if_pos h0] at h; cases h
  rw [if_neg h0] at h
  cases hx : lex s.data.toList with
  | none => rw [hx] at h; cases h
  | some l =>
    rw [hx] at h
    simp only at h
    by_cases h1 : l.length ≤ 800
    · rw [if_pos h1] at h; cases h
      exact lexF_wd _ _ _ hx
    · rw [if_neg h1] at h; cases h
/-- a state whose tokens are well formed, and whose names are of word bytes -/
def wdS (s : St) : Prop := ∀ t ∈ s.getD [], okT t ∧ wdT t
theorem wd_tl (s : St) (h : wdS s) : wdS (tl s) := by
  intro t ht
  match s, h, ht with
  | none, h, ht => exact h t ht
  | some [], h, ht => exact h t ht
  | some (x :: l), h, ht => exact h t (List.mem_cons_of_mem _ ht)
theorem wd_none : wdS none := fun t ht => by simp at ht
theorem wd_of_wf {a b : St} (h : ∀ t ∈ b.getD [], t ∈ a.getD []) (ha : wdS a) : wdS b := fun t ht => ha t (h t ht)
theorem nm_is (s : St) (h : wdS s) (hs : nmT s ≠ none) : isNm (nm s) := by
  by_cases hk : isK s 1 = true
  · match s, h, hk with
    | none, _, hk => rw [isK_none 1 (by decide)] at hk; cases hk
    | some [], _, hk => rw [isK_end 1 (by decide)] at hk; cases hk
    | some (t :: l), h, hk =>
      have ht : t.k = 1 := by simpa [isK, hd] using hk
      obtain ⟨h1, h2⟩ := h t (by simp)
      unfold nm
      rw [if_pos hk]
      exact ⟨h1.2.2.2 ht, h2 ht⟩
  · exact absurd (nmT_not s hk) hs
/-- a type whose innermost name is one -/
def wfTy : PTy → Prop
  | .one n _ => isNm n
  | .list t _ => wfTy t
theorem data_app (a b : ByteArray) : (a ++ b).data.toList = a.data.toList ++ b.data.toList := by
  rw [ByteArray.data_append, Array.toList_append]
def tyL : PTy → List UInt8
  | .one n st => n.data.toList ++ (if st = true then [33] else [])
  | .list t st => 91 :: (tyL t ++ 93 :: (if st = true then [33] else []))
theorem tyB_data : ∀ (t : PTy), (tyB t).data.toList = tyL t
  | .one n st => by
    rw [tyB, tyL]
    cases st
    · simp
    · simp only [if_true]; rw [data_app]
  | .list t st => by
    rw [tyB, tyL, ← tyB_data t]
    cases st
    · simp only [Bool.false_eq_true, if_false]; rw [data_app, data_app]; simp
    · simp only [if_true]; rw [data_app, data_app, data_app]; simp
theorem w33 : inB wordB 33 = false := by decide
theorem w91 : inB wordB 91 = false := by decide
theorem w93 : inB wordB 93 = false := by decide
theorem isNm.cons {n : ByteArray} (h : isNm n) : ∃ c l, n.data.toList = c :: l ∧ inB wordB c = true := by
  cases hd : n.data.toList with
  | nil =>
    have := congrArg List.length hd
    simp at this
    have h0 := h.1
    rw [show n.size = n.data.size from rfl, this] at h0
    simp at h0
  | cons c l => exact ⟨c, l, rfl, h.2 c (by rw [hd]; simp)⟩
theorem isLs_ty (t : PTy) (h : wfTy t) : isLs (tyB t) = isList t := by
  unfold isLs
  rw [tyB_data]
  cases t with
  | one n st =>
    obtain ⟨c, l, e, hc⟩ := isNm.cons h
    rw [tyL, e]
    simp only [List.cons_append, List.head?_cons, isList]
    apply decide_eq_false
    intro q
    simp only [Option.some.injEq] at q
    rw [q, w91] at hc
    cases hc
  | list t st => rw [tyL]; simp [isList]
theorem run_app (B : ByteArray) : ∀ (l r : List UInt8), (∀ b ∈ l, inB B b = true) → (∀ c, r.head? = some c → inB B c = false) → runLen (l ++ r) B = l.length
  | [], [], _, _ => by simp [runLen]
  | [], c :: r, _, h => by
    unfold runLen
    rw [List.nil_append, List.takeWhile_cons_of_neg (by rw [h c rfl]; simp)]
  | c :: l, r, h1, h2 => by
    have := run_app B l r (fun b hb => h1 b (by simp [hb])) h2
    unfold runLen at this ⊢
    rw [List.cons_append, List.takeWhile_cons_of_pos (h1 c (by simp)), List.length_cons, this, List.length_cons]
theorem core_one (n : ByteArray) (h : isNm n) (r : List UInt8) (hr : ∀ c, r.head? = some c → inB wordB c = false) (x : List UInt8) (hx : x.dropWhile (· == 91) = n.data.toList ++ r) : ofB ((x.dropWhile (· == 91)).take (runLen (x.dropWhile (· == 91)) wordB)) = n := by
  rw [hx, run_app wordB _ _ h.2 hr, List.take_left]
  rfl
theorem drop_ty : ∀ (t : PTy), wfTy t → ∀ r : List UInt8, (∀ c, r.head? = some c → inB wordB c = false) → ∃ r', (tyL t ++ r).dropWhile (· == 91) = (coreT t).data.toList ++ r' ∧ ∀ c, r'.head? = some c → inB wordB c = false
  | .one n st, h, r, hr => by
    refine ⟨(if st = true then [33] else []) ++ r, ?_, ?_⟩
    · rw [tyL, coreT, List.append_assoc]
      obtain ⟨c, l, e, hc⟩ := isNm.cons h
      rw [e, List.cons_append, List.dropWhile_cons_of_neg]
      intro q
      simp only [beq_iff_eq] at q
      rw [q, w91] at hc
      cases hc
    · intro c hc
      cases st
      · exact hr c (by simpa using hc)
      · simp at hc; rw [← hc]; exact w33
  | .list t st, h, r, hr => by
    rw [tyL, coreT, List.cons_append, List.dropWhile_cons_of_pos (by simp), List.append_assoc]
    exact drop_ty t h _ (fun c hc => by simp at hc; rw [← hc]; exact w93)
theorem isNm_core : ∀ (t : PTy), wfTy t → isNm (coreT t)
  | .one _ _, h => h
  | .list t _, h => isNm_core t h
theorem core_ty (t : PTy) (h : wfTy t) : coreS (tyB t) = coreT t := by
  unfold coreS
  rw [tyB_data]
  obtain ⟨r', h1, h2⟩ := drop_ty t h [] (fun c hc => by simp at hc)
  rw [List.append_nil] at h1
  exact core_one _ (isNm_core t h) r' h2 _ h1
theorem bang_inj {a b : List UInt8} {s r : Bool} (ha : ∀ c ∈ a, inB wordB c = true) (hb : ∀ c ∈ b, inB wordB c = true) (h : a ++ (if s = true then [33] else []) = b ++ (if r = true then [33] else [])) : a = b ∧ s = r := by
  cases s <;> cases r
  · simpa using h
  · simp only [Bool.false_eq_true, if_false, if_true, List.append_nil] at h
    have := ha 33 (by rw [h]; simp)
    rw [w33] at this; cases this
  · simp only [Bool.false_eq_true, if_false, if_true, List.append_nil] at h
    have := hb 33 (by rw [← h]; simp)
    rw [w33] at this; cases this
  · simp only [if_true] at h
    exact ⟨List.append_cancel_right h, rfl⟩
theorem tyL_inj : ∀ (t u : PTy), wfTy t → wfTy u → tyL t = tyL u → t = u
  | .one n s, .one m r, h1, h2, h => by
    rw [tyL, tyL] at h
    obtain ⟨e1, e2⟩ := bang_inj h1.2 h2.2 h
    have : n = m := by
      apply ByteArray.ext
      exact Array.toList_inj.1 e1
    rw [this, e2]
  | .one n s, .list u r, h1, h2, h => by
    obtain ⟨c, l, e, hc⟩ := isNm.cons h1
    rw [tyL, tyL, e, List.cons_append] at h
    have := (List.cons.inj h).1
    rw [this, w91] at hc; cases hc
  | .list t s, .one m r, h1, h2, h => by
    obtain ⟨c, l, e, hc⟩ := isNm.cons h2
    rw [tyL, tyL, e, List.cons_append] at h
    have := (List.cons.inj h).1
    rw [← this, w91] at hc; cases hc
  | .list t s, .list u r, h1, h2, h => by
    rw [tyL, tyL] at h
    have h := (List.cons.inj h).2
    have key : s = r ∧ tyL t = tyL u := by
      cases s <;> cases r
      · simp only [Bool.false_eq_true, if_false] at h
        exact ⟨rfl, List.append_cancel_right h⟩
      · simp only [Bool.false_eq_true, if_false, if_true] at h
        have := congrArg List.getLast? h
        simp at this
      · simp only [Bool.false_eq_true, if_false, if_true] at h
        have := congrArg List.getLast? h
        simp at this
      · simp only [if_true] at h
        exact ⟨rfl, List.append_cancel_right h⟩
    rw [key.1, tyL_inj t u h1 h2 key.2]
theorem sameT_iff : ∀ (t u : PTy), sameT t u = true ↔ t = u
  | .one n s, .one m r => by
    rw [sameT, Bool.and_eq_true, beq_iff_eq, decide_eq_true_eq]
    constructor
    · rintro ⟨h1, h2⟩; rw [h1, h2]
    · intro h; cases h; exact ⟨rfl, rfl⟩
  | .one n s, .list u r => by simp [sameT]
  | .list t s, .one m r => by simp [sameT]
  | .list t s, .list u r => by
    rw [sameT, Bool.and_eq_true, beq_iff_eq, sameT_iff t u]
    constructor
    · rintro ⟨h1, h2⟩; rw [h1, h2]
    · intro h; cases h; exact ⟨rfl, rfl⟩
theorem same_ty (t u : PTy) (h1 : wfTy t) (h2 : wfTy u) : decide (tyB t = tyB u) = sameT t u := by
  rw [Bool.eq_iff_iff, decide_eq_true_eq, sameT_iff]
  constructor
  · intro h
    apply tyL_inj t u h1 h2
    rw [← tyB_data, ← tyB_data, h]
  · intro h; rw [h]
end Go.Proofs.YtpggfgjongkihaaGreat
namespace Go.Proofs.YtpggfgjongkihaaGreat
open Go.RowKit
theorem scan_rl : ∀ (n : Nat) (l : List Tk), l.length ≤ n → scan l = rl l := by
  intro n
  induction n with
  | zero =>
    intro l h
    have : l = [] := List.eq_nil_of_length_eq_zero (by omega)
    subst this
    rw [scan, rl]
  | succ n ih =>
    intro l h
    match l, h with
    | [], _ => rw [scan, rl]
    | [t], _ => rw [scan, rl]
    | t :: u :: r, h =>
      simp only [List.length_cons] at h
      rw [scan, rl]
      split
      · split
        · rw [ih (r.drop 1) (by simp; omega)]
        · split
          · rw [ih r (by omega)]
          · exact ih (u :: r) (by simp; omega)
      · exact ih (u :: r) (by simp; omega)
def EatsK (l l' : List Tk) : Prop := ∃ e, l = e ++ l' ∧ No10 e ∧ ∀ r, No10 r → rlOk (e ++ r) = rlOk r
theorem fl_eatsK (n g : Nat) (hU : ∀ (l l' : List Tk), ln (some l) ≤ n → (pUnit g (some l)).2 = some l' → EatsK l l') :
    ∀ (m : Nat) (l l' : List Tk), ln (some l) ≤ n → (flT (pUnit g) m (some l)).2 = some l' → EatsK l l' := by
  intro m
  induction m with
  | zero =>
    intro l l' hn h
    simp only [flT, Option.some.injEq] at h
    subst h
    exact ⟨[], rfl, fun _ h => by simp at h, fun r _ => by simp⟩
  | succ m ih =>
    intro l l' hn h
    rw [flT] at h
    by_cases hw : (isW (some l) bAnd || isW (some l) bOr) = true
    · rw [if_pos hw] at h
      dsimp only at h
      have hk : isK (some l) 1 = true := by
        rcases (Bool.or_eq_true _ _ ▸ hw : isW (some l) bAnd = true ∨ isW (some l) bOr = true) with h | h <;> exact isW_isK _ _ h
      obtain ⟨t, r0, hl, ht, htl, hhd⟩ := isK_cons l 1 (by decide) hk
      have hts : t.s ≠ bIs := by
        intro e
        have e2 : (hd (some l)).s = bIs := by rw [hhd]; exact e
        rcases (Bool.or_eq_true _ _ ▸ hw : isW (some l) bAnd = true ∨ isW (some l) bOr = true) with h | h
        · unfold isW at h; rw [e2] at h; simp only [Bool.and_eq_true, decide_eq_true_eq] at h; exact absurd h.2 (by decide)
        · unfold isW at h; rw [e2] at h; simp only [Bool.and_eq_true, decide_eq_true_eq] at h; exact absurd h.2 (by decide)
      rw [htl] at h
      cases hp : (pUnit g (some r0)).2 with
      | none =>
        rw [hp] at h
        have : (flT (pUnit g) m none).2 = none := by
          cases m with
          | zero => rfl
          | succ m => rw [flT, isW_no, isW_no]; rfl
        rw [this] at h; cases h
      | some l2 =>
        rw [hp] at h
        subst hl
        have hn0 : ln (some r0) ≤ n := by simp [ln] at hn ⊢; omega
        obtain ⟨e2, h2, n2, s2⟩ := hU r0 l2 hn0 hp
        have hn2 : ln (some l2) ≤ n := by subst h2; simp [ln] at hn ⊢; omega
        obtain ⟨e3, h3, n3, s3⟩ := ih l2 l' hn2 h
        refine ⟨t :: (e2 ++ e3), by rw [h2, h3]; simp, fun u hu => ?_, fun r hr => ?_⟩
        · simp at hu; subst hu; omega
        · rw [List.cons_append, List.append_assoc, (rl_word t _ (n2.app (n3.app hr)) hts).2, s2 _ (n3.app hr), s3 r hr]
    · rw [if_neg hw] at h
      simp only [Option.some.injEq] at h
      subst h
      exact ⟨[], rfl, fun _ h => by simp at h, fun r _ => by simp⟩
theorem rule_eatsK (n g : Nat) (hU : ∀ (l l' : List Tk), ln (some l) ≤ n → (pUnit g (some l)).2 = some l' → EatsK l l')
    (l l' : List Tk) (hn : ln (some l) ≤ n) (h8 : ln (some l) ≤ 801) (h : (pRule g (some l)).2 = some l') : EatsK l l' := by
  rw [pRule_flat g _ h8] at h
  dsimp only at h
  cases hp : (pUnit g (some l)).2 with
  | none =>
    rw [hp] at h
    have : (flT (pUnit g) 801 none).2 = none := by rw [flT, isW_no, isW_no]; rfl
    rw [this] at h; cases h
  | some l2 =>
    rw [hp] at h
    obtain ⟨e2, h2, n2, s2⟩ := hU l l2 hn hp
    have hn2 : ln (some l2) ≤ n := by subst h2; simp [ln] at hn ⊢; omega
    obtain ⟨e3, h3, n3, s3⟩ := fl_eatsK n g hU 801 l2 l' hn2 h
    refine ⟨e2 ++ e3, by rw [h2, h3]; simp, n2.app n3, fun r hr => ?_⟩
    rw [List.append_assoc, s2 _ (n3.app hr), s3 r hr]
theorem unit_eatsK : ∀ (n g : Nat) (l l' : List Tk), n ≤ g → n ≤ 801 → ln (some l) ≤ n → (pUnit g (some l)).2 = some l' → EatsK l l' := by
  intro n
  induction n with
  | zero => intro g l l' _ _ h; simp [ln] at h
  | succ n ih =>
    intro g l l' hg h8 hn h
    obtain ⟨g', rfl⟩ : ∃ g', g = g' + 1 := ⟨g - 1, by omega⟩
    rw [pUnit_succ] at h
    by_cases h7 : isK (some l) 7 = true
    · rw [if_pos h7] at h
      dsimp only at h
      obtain ⟨t, r0, hl, ht, htl, hhd⟩ := isK_cons l 7 (by decide) h7
      rw [htl] at h
      obtain ⟨u, hu, hk⟩ := mustK_some _ l' 8 (by decide) h
      subst hl
      have hn0 : ln (some r0) ≤ n := by simp [ln] at hn ⊢; omega
      obtain ⟨e, he, ne, se⟩ := rule_eatsK n g' (fun a b h1 h2 => ih g' a b (by omega) (by omega) h1 h2) r0 (u :: l') hn0 (by omega) hu
      refine ⟨t :: (e ++ [u]), by rw [he]; simp, fun x hx => ?_, fun r hr => ?_⟩
      · simp at hx; subst hx; omega
      · have n8 : No10 (u :: r) := by intro x hx; simp at hx; subst hx; omega
        have e1 := se (u :: r) n8
        rw [(rl_skip u r (by omega)).2] at e1
        rw [List.cons_append, (rl_skip t _ (by omega)).2, List.append_assoc]
        exact e1
    · rw [if_neg h7] at h
      by_cases hN : nm (some l) = bNot
      · rw [if_pos hN] at h
        cases hx : nmT (some l) with
        | none => rw [hx, pUnit_none] at h; cases h
        | some r0 =>
          rw [hx] at h
          obtain ⟨t, hl, ht, hs⟩ := nmT_some l r0 hx
          subst hl
          have hn0 : ln (some r0) ≤ n := by simp [ln] at hn ⊢; omega
          obtain ⟨e, he, ne, se⟩ := ih g' r0 l' (by omega) (by omega) hn0 h
          refine ⟨t :: e, by rw [he]; simp, fun x hx => ?_, fun r hr => ?_⟩
          · simp at hx; subst hx; omega
          · rw [List.cons_append, (rl_word t _ (ne.app hr) (by rw [← hs, hN]; decide)).2]
            exact se r hr
      · rw [if_neg hN] at h
        by_cases hA : nm (some l) = bAll
        · rw [if_pos hA] at h
          dsimp only at h
          obtain ⟨t, hl, ht, hs⟩ := nmT_some l l' h
          refine ⟨[t], by rw [hl]; rfl, fun x hx => ?_, fun r hr => ?_⟩
          · simp at hx; subst hx; omega
          · exact (rl_word t r hr (by rw [← hs, hA]; decide)).2
        · rw [if_neg hA] at h
          by_cases hI : nm (some l) = bIs
          · rw [if_pos hI] at h
            dsimp only at h
            cases hx : nmT (some l) with
            | none => rw [hx, nmT_none] at h; cases h
            | some r0 =>
              rw [hx] at h
              obtain ⟨t, hl, ht, hs⟩ := nmT_some l r0 hx
              obtain ⟨u, hl2, hu, hs2⟩ := nmT_some r0 l' h
              refine ⟨[t, u], by rw [hl, hl2]; rfl, fun x hx => ?_, fun r hr => ?_⟩
              · simp at hx; subst hx; omega
              · show rlOk (t :: u :: r) = rlOk r
                rw [(rl_is t u r ht (by omega) (by rw [← hs, hI])).2, decide_eq_true hu, Bool.true_and]
          · rw [if_neg hI] at h
            dsimp only at h
            cases hm : mustT (nmT (some l)) (isK (nmT (some l)) 10) with
            | none => rw [hm, pValue_no] at h; cases h
            | some r1 =>
              rw [hm] at h
              obtain ⟨u, hu, huk⟩ := mustK_some _ r1 10 (by decide) hm
              obtain ⟨t, hl, ht, hs⟩ := nmT_some l _ hu
              obtain ⟨v, hv⟩ := pValue_some r1 l' h
              refine ⟨[t, u, v], by rw [hl, hv]; rfl, fun x hx => ?_, fun r hr => ?_⟩
              · simp at hx; subst hx; omega
              · show rlOk (t :: u :: v :: r) = rlOk r
                rw [(rl_eq t u (v :: r) ht huk).2]; rfl
theorem rule_okK (g : Nat) (hg : 801 ≤ g) (l l' : List Tk) (h8 : ln (some l) ≤ 801) (h : (pRule g (some l)).2 = some l') :
    rlOk (eaten (some l) (some l')) = true := by
  obtain ⟨e, he, ne, se⟩ := rule_eatsK 801 g (fun a b h1 h2 => unit_eatsK 801 g a b hg (by omega) h1 h2) l l' h8 h8 h
  have e0 := se [] (fun x hx => by simp at hx)
  have e1 : eaten (some l) (some l') = e := by
    unfold eaten
    rw [he]
    simp
  rw [e1]
  rw [List.append_nil] at e0
  rw [e0, rlOk]
theorem rows_okK (s : St) (hl : ln s ≤ 801) (h : (pRows s).2 ≠ none) : rlOk (rRows s).1 = true ∧ (rRows s).1.length ≤ 801 ∧ ∀ t ∈ (rRows s).1, t ∈ s.getD [] := by
  unfold rRows
  unfold pRows at h
  cases hk : isK s 11
  · simp only [Bool.false_eq_true, if_false]
    refine ⟨by rw [rlOk], by simp, fun t ht => by simp at ht⟩
  · simp only [hk, if_true] at h ⊢
    have hl2 : ln (pRows2 (tl s)) ≤ 801 := Nat.le_trans (ln_mustT _ _) (Nat.le_trans (ln_mustT _ _) (Nat.le_trans (ln_tl_le _) hl))
    have hst := rule_state (pRows2 (tl s)) 802 (by decide) hl2
    have hsub : ∀ t ∈ (pRows2 (tl s)).getD [], t ∈ s.getD [] := by
      have h1 : ∀ (a : St), ∀ t ∈ (tl a).getD [], t ∈ a.getD [] := by
        intro a t ht
        match a, ht with
        | none, ht => exact ht
        | some [], ht => exact ht
        | some (x :: l), ht => exact List.mem_cons_of_mem _ ht
      have h2 : ∀ (a : St) (b : Bool), ∀ t ∈ (mustT a b).getD [], t ∈ a.getD [] := by
        intro a b t ht
        unfold mustT at ht
        split at ht
        · exact h1 a t ht
        · simp at ht
      intro t ht
      unfold pRows2 at ht
      exact h1 _ _ (h2 _ _ _ (h2 _ _ _ ht))
    show rlOk (eaten (pRows2 (tl s)) (rRule (pRows2 (tl s)))) = true ∧ (eaten (pRows2 (tl s)) (rRule (pRows2 (tl s)))).length ≤ 801 ∧ ∀ t ∈ eaten (pRows2 (tl s)) (rRule (pRows2 (tl s))), t ∈ s.getD []
    generalize pRows2 (tl s) = s5 at h hl2 hst hsub ⊢
    rw [← hst]
    cases hp : (pRule 802 s5).2 with
    | none => rw [hp, mustT_none] at h; exact absurd rfl h
    | some l' =>
      cases s5 with
      | none =>
        rw [hp] at hst
        have e : rRule none = none := rRuleF_no 801
        rw [e] at hst; cases hst
      | some l =>
        refine ⟨rule_okK 802 (by decide) l l' hl2 hp, ?_, ?_⟩
        · have : ln (some l) = l.length + 1 := rfl
          unfold eaten
          rw [List.length_take]; omega
        · intro t ht
          unfold eaten at ht
          exact hsub t (List.mem_of_mem_take ht)
end Go.Proofs.YtpggfgjongkihaaGreat
namespace Go.Proofs.YtpggfgjongkihaaGreat
open Go.RowKit
/-- what is left of a state -/
def Sub (b a : St) : Prop := ∀ t ∈ b.getD [], t ∈ a.getD []
theorem Sub.refl (a : St) : Sub a a := fun _ h => h
theorem Sub.trans {a b c : St} (h : Sub a b) (k : Sub b c) : Sub a c := fun t ht => k t (h t ht)
theorem Sub.none (a : St) : Sub none a := fun t ht => by simp at ht
theorem sub_tl (s : St) : Sub (tl s) s := by
  intro t ht
  match s, ht with
  | Option.none, ht => exact ht
  | some [], ht => exact ht
  | some (x :: l), ht => exact List.mem_cons_of_mem _ ht
theorem sub_nmT (s : St) : Sub (nmT s) s := by
  unfold nmT; split
  · exact sub_tl s
  · exact Sub.none _
theorem sub_mustT (s : St) (b : Bool) : Sub (mustT s b) s := by
  unfold mustT; split
  · exact sub_tl s
  · exact Sub.none _
theorem sub_mayT (s : St) (b : Bool) : Sub (mayT s b) s := by
  unfold mayT; split
  · exact sub_tl s
  · exact Sub.refl _
theorem sub_pMarkRole (r : ByteArray) (s : St) : Sub (pMarkRole r s).2 s := by
  unfold pMarkRole
  refine Sub.trans (sub_mustT _ _) (Sub.trans (sub_nmT _) (Sub.trans (sub_mustT _ _) ?_))
  split
  · exact Sub.refl _
  · exact Sub.none _
theorem sub_pMark (a h : ByteArray) (s : St) : Sub (pMark a h s).2 s := by
  unfold pMark
  split
  · exact Sub.trans (sub_pMarkRole _ _) (sub_nmT _)
  · split
    · exact Sub.trans (sub_pMarkRole _ _) (sub_nmT _)
    · exact Sub.none _
theorem sub_pType : ∀ (f : Nat) (s : St), Sub (pType f s).2 s
  | 0, s => Sub.refl _
  | f + 1, s => by
    rw [pType]
    split
    · exact Sub.trans (sub_mayT _ _) (Sub.trans (sub_mustT _ _) (Sub.trans (sub_pType f (tl s)) (sub_tl s)))
    · exact Sub.trans (sub_mayT _ _) (sub_nmT s)
theorem sub_pArg (s : St) : Sub (pArg s).2 s := by
  unfold pArg
  refine Sub.trans (sub_mustT _ _) (Sub.trans (sub_mustT _ _) ?_)
  unfold pArgS
  split
  · exact sub_nmT s
  · split
    · exact sub_nmT s
    · exact Sub.none _
theorem sub_pFArg (s : St) : Sub (pFArg s).2 s := by
  unfold pFArg
  split
  · exact Sub.trans (sub_mustT _ _) (Sub.trans (sub_pArg _) (sub_tl s))
  · exact Sub.refl _
theorem sub_pMarks : ∀ (f : Nat) (s : St) (a h : ByteArray), Sub (pMarks f s a h).2 s
  | 0, s, a, h => Sub.refl _
  | f + 1, s, a, h => by
    rw [pMarks]
    split
    · exact Sub.trans (sub_pMarks f _ _ _) (Sub.trans (sub_pMark _ _ _) (sub_tl s))
    · exact Sub.refl _
theorem sub_pField_le (s : St) : Sub (pField s).2 (nmT s) := by
  unfold pField
  exact Sub.trans (sub_pMarks _ _ _ _) (Sub.trans (sub_pType _ _) (by unfold pTyS; exact Sub.trans (sub_mustT _ _) (sub_pFArg _)))
theorem sub_pFieldsF : ∀ (f : Nat) (s : St), Sub (pFieldsF f s).2 s
  | 0, s => Sub.refl _
  | f + 1, s => by
    rw [pFieldsF]
    split
    · exact Sub.trans (sub_pFieldsF f _) (Sub.trans (sub_pField_le s) (sub_nmT s))
    · exact Sub.refl _
theorem sub_pFields (s : St) : Sub (pFields s).2 s := by
  unfold pFields
  exact Sub.trans (sub_mustT _ _) (Sub.trans (sub_pFieldsF _ _) (Sub.trans (sub_pField_le _) (Sub.trans (sub_nmT _) (sub_mustT _ _))))
theorem sub_chainF (word : ByteArray) (part : St → List Leaf × St) (hp : ∀ s, Sub (part s).2 s) : ∀ (f : Nat) (acc : List (List Leaf)) (s : St), Sub (chainF word part f acc s).2 s
  | 0, _, _ => Sub.refl _
  | f + 1, acc, s => by
    rw [chainF]
    split
    · exact Sub.trans (sub_chainF word part hp f _ _) (Sub.trans (hp _) (sub_tl s))
    · exact Sub.refl _
theorem sub_chain (word : ByteArray) (part : St → List Leaf × St) (hp : ∀ s, Sub (part s).2 s) (s : St) : Sub (chain word part s).2 s :=
  Sub.trans (sub_chainF word part hp _ _ _) (hp s)
theorem sub_pValue (s : St) : Sub (pValue s) s := by
  unfold pValue
  split
  · exact sub_tl s
  · unfold pVal
    split
    · exact sub_tl s
    · split
      · exact sub_tl s
      · split
        · unfold wordS
          split
          · exact sub_tl s
          · split
            · exact sub_tl s
            · split
              · exact sub_tl s
              · exact Sub.none _
        · exact Sub.none _
theorem sub_pUnit : ∀ (f : Nat) (s : St), Sub (pUnit f s).2 s
  | 0, s => Sub.refl _
  | f + 1, s => by
    rw [pUnit_succ]
    split
    · exact Sub.trans (sub_mustT _ _) (Sub.trans (sub_chain _ _ (sub_chain _ _ (sub_pUnit f)) _) (sub_tl s))
    · split
      · exact Sub.trans (sub_pUnit f _) (sub_nmT s)
      · split
        · exact sub_nmT s
        · split
          · exact Sub.trans (sub_nmT _) (sub_nmT s)
          · exact Sub.trans (sub_pValue _) (Sub.trans (sub_mustT _ _) (sub_nmT s))
theorem sub_pIncF : ∀ (f : Nat) (s : St), Sub (pIncF f s).2 s
  | 0, s => Sub.refl _
  | f + 1, s => by
    rw [pIncF]
    split
    · exact Sub.trans (sub_pIncF f _) (sub_nmT s)
    · exact Sub.refl _
theorem sub_pRole (s : St) : Sub (pRole s).2 s := by
  unfold pRole
  split
  · unfold incEnd
    simp only []
    split
    · exact Sub.none _
    · exact Sub.trans (sub_pIncF _ _) (Sub.trans (sub_tl _) (sub_nmT s))
  · exact sub_nmT s
theorem sub_pImplF : ∀ (f : Nat) (s : St), Sub (pImplF f s).2 s
  | 0, s => Sub.refl _
  | f + 1, s => by
    rw [pImplF]
    split
    · exact Sub.trans (sub_pImplF f _) (sub_nmT s)
    · exact Sub.refl _
theorem sub_pImpl (s : St) : Sub (pImpl s).2 s := by
  unfold pImpl
  split
  · exact Sub.trans (sub_pImplF _ _) (Sub.trans (sub_nmT _) (sub_tl s))
  · exact Sub.refl _
theorem sub_pRows (s : St) : Sub (pRows s).2 s := by
  unfold pRows
  split
  · refine Sub.trans (sub_mustT _ _) (Sub.trans (sub_chain _ _ (sub_chain _ _ (sub_pUnit _)) _) ?_)
    unfold pRows2
    exact Sub.trans (sub_mustT _ _) (Sub.trans (sub_mustT _ _) (sub_tl s))
  · exact Sub.refl _
theorem sub_pObject (s : St) : Sub (pObject s).2 s := by
  unfold pObject
  dsimp only
  exact Sub.trans (sub_pFields _) (Sub.trans (sub_pRows _) (Sub.trans (sub_pImpl _) (sub_nmT s)))
theorem sub_pMemF : ∀ (f : Nat) (s : St), Sub (pMemF f s).2 s
  | 0, s => Sub.refl _
  | f + 1, s => by
    rw [pMemF]
    split
    · exact Sub.trans (sub_pMemF f _) (Sub.trans (sub_nmT _) (sub_tl s))
    · exact Sub.refl _
theorem sub_pMembers (s : St) : Sub (pMembers s).2 s := by
  unfold pMembers
  exact Sub.trans (sub_pMemF _ _) (Sub.trans (sub_nmT _) (sub_mustT _ _))
theorem sub_pDef (c : PSch) (s : St) : Sub (pDef c s).2 (nmT s) := by
  unfold pDef
  split
  · dsimp only
    exact sub_pRole _
  · split
    · dsimp only
      exact sub_pObject _
    · split
      · dsimp only
        exact Sub.trans (sub_pFields _) (sub_nmT _)
      · split
        · dsimp only
          exact Sub.trans (sub_pMembers _) (sub_nmT _)
        · exact Sub.none _
theorem Sub.wd {a b : St} (h : Sub b a) (ha : wdS a) : wdS b := fun t ht => ha t (h t ht)
theorem wdS.wf {s : St} (h : wdS s) : wfS s := fun t ht => (h t ht).1
theorem ty_wf : ∀ (f : Nat) (s : St), ln s ≤ f → wdS s → (pType f s).2 ≠ none → wfTy (pType f s).1 ∧ (tyB (pType f s).1).size ≤ 4001 + 3 * f
  | 0, s, hl, _, h => by
    match s, hl, h with
    | none, _, h => exact absurd rfl h
    | some l, hl, _ => simp [ln] at hl
  | f + 1, s, hl, hw, h => by
    rw [pType] at h ⊢
    by_cases hk : isK s 12 = true
    · rw [if_pos hk] at h ⊢
      dsimp only at h ⊢
      have h1 := ln_tl_lt s 12 (by decide) hk
      have h2 : (pType f (tl s)).2 ≠ none := by
        intro e
        rw [e, mustT_none, mayT_none] at h
        exact h rfl
      obtain ⟨a, b⟩ := ty_wf f (tl s) (by omega) (wd_tl s hw) h2
      refine ⟨a, ?_⟩
      rw [tyB]
      split
      · simp only [ByteArray.size_append]
        have e1 : (⟨#[91]⟩ : ByteArray).size = 1 := rfl
        have e2 : (⟨#[93]⟩ : ByteArray).size = 1 := rfl
        have e3 : (⟨#[33]⟩ : ByteArray).size = 1 := rfl
        omega
      · simp only [ByteArray.size_append]
        have e1 : (⟨#[91]⟩ : ByteArray).size = 1 := rfl
        have e2 : (⟨#[93]⟩ : ByteArray).size = 1 := rfl
        omega
    · rw [if_neg hk] at h ⊢
      dsimp only at h ⊢
      have h2 : nmT s ≠ none := by
        intro e
        rw [e, mayT_none] at h
        exact h rfl
      have hs := nmS_size s hw.wf
      refine ⟨nm_is s hw h2, ?_⟩
      rw [tyB]
      split
      · rw [ByteArray.size_append]
        have e3 : (⟨#[33]⟩ : ByteArray).size = 1 := rfl
        omega
      · omega
/-- a field that was read -/
structure okPF (f : PFld) : Prop where
  ty : wfTy f.ty
  size : (tyB f.ty).size ≤ 100000
  scal : f.scalar = pScalar f.arg
theorem arg_scal (s : St) : (pFArg s).1.2 = pScalar (pFArg s).1.1 := by
  unfold pFArg
  split
  · rfl
  · rfl
theorem ln_pTyS (s : St) : ln (pTyS s) ≤ ln s := by
  unfold pTyS
  refine Nat.le_trans (ln_mustT _ _) (Nat.le_trans ?_ (ln_nmT s))
  rw [← (arg_agree (nmT s)).1]
  exact ln_rArg _
theorem field_wf (s : St) (hl : ln s ≤ 801) (hw : wdS s) (h : (pField s).2 ≠ none) : okPF (pField s).1 := by
  unfold pField at h ⊢
  dsimp only at h ⊢
  have h1 : (pType 802 (pTyS s)).2 ≠ none := by
    intro e
    rw [e, pMarks_none] at h
    exact h rfl
  have hsub : Sub (pTyS s) s := by
    unfold pTyS
    exact (sub_mustT _ _).trans ((sub_pFArg _).trans (sub_nmT s))
  obtain ⟨a, b⟩ := ty_wf 802 (pTyS s) (by have := ln_pTyS s; omega) (hsub.wd hw) h1
  exact ⟨a, Nat.le_trans b (by decide), arg_scal _⟩
theorem fieldsF_wf : ∀ (f : Nat) (s : St), ln s ≤ 801 → wdS s → (pFieldsF f s).2 ≠ none → ∀ x ∈ (pFieldsF f s).1, okPF x
  | 0, s, _, _, _, x, hx => by simp [pFieldsF] at hx
  | f + 1, s, hl, hw, h, x, hx => by
    rw [pFieldsF] at h hx
    by_cases hk : isK s 1 = true
    · rw [if_pos hk] at h hx
      dsimp only at h hx
      have h1 : (pField s).2 ≠ none := by
        intro e
        rw [e, pFieldsF_stop f none (isK_none 1 (by decide))] at h
        exact h rfl
      rcases List.mem_cons.1 hx with e | e
      · rw [e]; exact field_wf s hl hw h1
      · have hle : ln (pField s).2 ≤ 801 := Nat.le_trans (ln_pField_le s) (Nat.le_trans (ln_nmT s) hl)
        exact fieldsF_wf f _ hle (((sub_pField_le s).trans (sub_nmT s)).wd hw) h x e
    · rw [if_neg hk] at hx
      simp at hx
theorem fields_wf (s : St) (hl : ln s ≤ 801) (hw : wdS s) (h : (pFields s).2 ≠ none) : ∀ x ∈ (pFields s).1, okPF x := by
  unfold pFields at h ⊢
  dsimp only at h ⊢
  have hl1 : ln (mustT s (isK s 14)) ≤ 801 := Nat.le_trans (ln_mustT _ _) hl
  have hw1 := (sub_mustT s (isK s 14)).wd hw
  generalize mustT s (isK s 14) = s1 at *
  have h2 : (pFieldsF 801 (pField s1).2).2 ≠ none := by
    intro e
    rw [e, mustT_none] at h
    exact h rfl
  have h1 : (pField s1).2 ≠ none := by
    intro e
    rw [e, pFieldsF_stop 801 none (isK_none 1 (by decide))] at h2
    exact h2 rfl
  intro x hx
  rcases List.mem_cons.1 hx with e | e
  · rw [e]; exact field_wf s1 hl1 hw1 h1
  · have hle : ln (pField s1).2 ≤ 801 := Nat.le_trans (ln_pField_le s1) (Nat.le_trans (ln_nmT s1) hl1)
    exact fieldsF_wf 801 _ hle (((sub_pField_le s1).trans (sub_nmT s1)).wd hw1) h2 x e
theorem len_rFldF : ∀ (f : Nat) (s : St), (rFldF f s).1.length ≤ f
  | 0, s => by simp [rFldF]
  | f + 1, s => by
    rw [rFldF]
    split
    · simp
    · split
      · simp
      · simp only [List.length_cons]
        have := len_rFldF f (rField s).2
        omega
theorem len_rImpF : ∀ (f : Nat) (s : St), (rImpF f s).1.length ≤ f
  | 0, s => by simp [rImpF]
  | f + 1, s => by
    rw [rImpF]
    split
    · simp
    · split
      · simp only [List.length_cons]
        have := len_rImpF f (nmT s)
        omega
      · simp
theorem len_rMemF : ∀ (f : Nat) (s : St), (rMemF f s).1.length ≤ f
  | 0, s => by simp [rMemF]
  | f + 1, s => by
    rw [rMemF]
    split
    · simp
    · split
      · simp only [List.length_cons]
        have := len_rMemF f (tl (nmT s))
        omega
      · simp
theorem toR_ok {l : List PFld} (h : ∀ x ∈ l, okPF x) : ∀ f ∈ l.map toR, 0 < f.ty.size ∧ f.ty.size ≤ 100000 := by
  intro f hf
  obtain ⟨x, hx, e⟩ := List.mem_map.1 hf
  subst e
  have h1 := h x hx
  refine ⟨?_, h1.size⟩
  show 0 < (tyB x.ty).data.size
  have e : (tyB x.ty).data.toList = tyL x.ty := tyB_data _
  rw [← Array.length_toList, e]
  cases hx2 : x.ty with
  | one n st =>
    have := h1.ty
    rw [hx2] at this
    have h0 : 0 < n.data.size := this.1
    rw [tyL, List.length_append, Array.length_toList]; omega
  | list u st => rw [tyL]; simp
end Go.Proofs.YtpggfgjongkihaaGreat
namespace Go.Proofs.YtpggfgjongkihaaGreat
open Go.RowKit
/-- a definition of the program's: an object, an interface or a union -/
inductive PD where
  | o (x : PObj)
  | i (x : PIf)
  | u (x : PUn)
def PD.name : PD → ByteArray
  | .o x => x.name
  | .i x => x.name
  | .u x => x.name
def PD.isO : PD → Option PObj
  | .o x => some x
  | _ => none
def PD.isI : PD → Option PIf
  | .i x => some x
  | _ => none
def PD.isU : PD → Option PUn
  | .u x => some x
  | _ => none
/-- a definition of the reference's, and the program's -/
def dRel (d : RDef) : PD → Prop
  | .o x => d.sort = 0 ∧ d.name = x.name ∧ d.fields = x.fields.map toR ∧ d.above = x.impl ∧ d.ruled = x.rule.isSome ∧ rl d.rule = x.rule.getD [] ∧ ∀ f ∈ x.fields, okPF f
  | .i x => d = ⟨1, x.name, x.fields.map toR, [], false, []⟩ ∧ ∀ f ∈ x.fields, okPF f
  | .u x => d = ⟨2, x.name, [], x.members, false, []⟩
inductive F2 {α β : Type} (R : α → β → Prop) : List α → List β → Prop
  | nil : F2 R [] []
  | cons {a : α} {b : β} {l : List α} {m : List β} : R a b → F2 R l m → F2 R (a :: l) (b :: m)
theorem F2.snoc {α β : Type} {R : α → β → Prop} {a : α} {b : β} {l : List α} {m : List β} (h : F2 R l m) (hr : R a b) : F2 R (l ++ [a]) (m ++ [b]) := by
  induction h with
  | nil => exact F2.cons hr F2.nil
  | cons h1 _ ih => exact F2.cons h1 ih
/-- the same schema -/
structure SRel (c : PSch) (d : RSch) : Prop where
  roles : d.roles = c.roles
  ok : ∀ x ∈ d.defs, okDef x
  ex : ∃ M : List PD, c.objs = M.filterMap PD.isO ∧ c.ifs = M.filterMap PD.isI ∧ c.uns = M.filterMap PD.isU ∧ c.names = M.map PD.name ∧ F2 dRel d.defs M
theorem SRel.start : SRel c00 r00 := ⟨rfl, fun x hx => by simp [r00] at hx, [], rfl, rfl, rfl, rfl, F2.nil⟩
theorem SRel.add {c c' : PSch} {d : RSch} {x : RDef} {m : PD} (h : SRel c d) (ho : okDef x) (hr : dRel x m) (h0 : c'.roles = c.roles) (h1 : c'.objs = c.objs ++ (PD.isO m).toList) (h2 : c'.ifs = c.ifs ++ (PD.isI m).toList) (h3 : c'.uns = c.uns ++ (PD.isU m).toList) (h4 : c'.names = c.names ++ [m.name]) : SRel c' ⟨d.roles, d.defs ++ [x]⟩ := by
  obtain ⟨M, m1, m2, m3, m4, m5⟩ := h.ex
  refine ⟨h.roles.trans h0.symm, fun y hy => ?_, M ++ [m], ?_, ?_, ?_, ?_, m5.snoc hr⟩
  · rcases List.mem_append.1 hy with e | e
    · exact h.ok y e
    · rw [List.mem_singleton] at e; rw [e]; exact ho
  · rw [h1, m1, List.filterMap_append]; cases m <;> rfl
  · rw [h2, m2, List.filterMap_append]; cases m <;> rfl
  · rw [h3, m3, List.filterMap_append]; cases m <;> rfl
  · rw [h4, m4, List.map_append]; rfl
theorem def_rel (c : PSch) (d : RSch) (s : St) (hl : ln s ≤ 801) (hw : wdS s) (h : SRel c d) (hs : (pDef c s).2 ≠ none) : SRel (pDef c s).1 (rDef d s).1 := by
  have h1 : ln (nmT s) ≤ 801 := Nat.le_trans (ln_nmT s) hl
  have h2 : ln (nmT (nmT s)) ≤ 801 := Nat.le_trans (ln_nmT _) h1
  have w1 := (sub_nmT s).wd hw
  have w2 := (sub_nmT _).wd w1
  unfold pDef at hs ⊢
  unfold rDef
  by_cases e1 : nm s = bRole
  · rw [if_pos e1] at hs ⊢
    rw [if_pos e1]
    dsimp only at hs ⊢
    obtain ⟨M, m1, m2, m3, m4, m5⟩ := h.ex
    exact ⟨by rw [h.roles, (role_agree _ h1).2 hs], h.ok, M, m1, m2, m3, m4, m5⟩
  · rw [if_neg e1] at hs ⊢
    rw [if_neg e1]
    by_cases e2 : nm s = bType
    · rw [if_pos e2] at hs ⊢
      rw [if_pos e2]
      dsimp only at hs ⊢
      have hag := (object_agree _ h1).2 hs
      have hsc := object_scan _ h1 hs
      rw [scan_rl _ _ (Nat.le_refl _)] at hsc
      have hpo : (pObject (nmT s)).2 = (pFields (pRows (pImpl (nmT (nmT s))).2).2).2 := by unfold pObject; dsimp only
      have hpf : (pObject (nmT s)).1.fields = (pFields (pRows (pImpl (nmT (nmT s))).2).2).1 := by unfold pObject; dsimp only
      have li : ln (pImpl (nmT (nmT s))).2 ≤ 801 := Nat.le_trans (ln_pImpl _) h2
      have lr : ln (pRows (pImpl (nmT (nmT s))).2).2 ≤ 801 := Nat.le_trans (ln_pRows _) li
      have wi := (sub_pImpl (nmT (nmT s))).wd w2
      have wr := (sub_pRows (pImpl (nmT (nmT s))).2).wd wi
      rw [hpo] at hs
      have hpr : (pRows (pImpl (nmT (nmT s))).2).2 ≠ none := none_of_ln (ln_pFields _) hs
      have hfw := fields_wf _ lr wr hs
      rw [← hpf] at hfw
      obtain ⟨k1, k2, k3⟩ := rows_okK _ li hpr
      have hok : okDef (rObject (nmT s)).1 := by
        refine ⟨?_, ?_, ?_, ?_, ?_, ?_, ?_⟩
        · rw [hag]; exact Nat.zero_le _
        · rw [hag]; exact toR_ok hfw
        · unfold rObject rFields
          dsimp only
          exact len_rFldF 801 _
        · unfold rObject
          dsimp only
          unfold rImp
          split
          · exact len_rImpF 801 _
          · simp
        · rw [hag]; exact k2
        · rw [hag]; intro t ht; exact (wi t (k3 t ht)).1
        · rw [hag]; exact k1
      refine h.add (m := .o (pObject (nmT s)).1) hok ?_ rfl rfl (by simp [PD.isI]) (by simp [PD.isU]) rfl
      refine ⟨by rw [hag], by rw [hag], by rw [hag], by rw [hag], by rw [hag], hsc, hfw⟩
    · rw [if_neg e2] at hs ⊢
      rw [if_neg e2]
      by_cases e3 : nm s = bIface
      · rw [if_pos e3] at hs ⊢
        rw [if_pos e3]
        dsimp only at hs ⊢
        have hag := (fields_agree _ h2).2 hs
        have hfw := fields_wf _ h2 w2 hs
        refine h.add (m := .i ⟨nm (nmT s), (pFields (nmT (nmT s))).1⟩) ?_ ?_ rfl (by simp [PD.isO]) rfl (by simp [PD.isU]) rfl
        · refine ⟨Nat.le_succ 1, ?_, ?_, by simp, by simp, fun t ht => by simp at ht, by rw [rlOk]⟩
          · dsimp only; rw [hag]; exact toR_ok hfw
          · dsimp only; unfold rFields; exact len_rFldF 801 _
        · exact ⟨by rw [hag], hfw⟩
      · rw [if_neg e3] at hs ⊢
        rw [if_neg e3]
        by_cases e4 : nm s = bUnion'
        · rw [if_pos e4] at hs ⊢
          rw [if_pos e4]
          dsimp only at hs ⊢
          have hag := (union_agree _ h1).2 hs
          refine h.add (m := .u ⟨nm (nmT s), (pMembers (nmT (nmT s))).1⟩) ?_ ?_ rfl (by simp [PD.isO]) (by simp [PD.isI]) rfl rfl
          · refine ⟨by rw [hag]; exact Nat.le_refl 2, ?_, ?_, ?_, ?_, ?_, ?_⟩
            · rw [hag]; intro f hf; simp at hf
            · rw [hag]; simp
            · unfold rUnion; dsimp only; exact len_rMemF 801 _
            · rw [hag]; simp
            · rw [hag]; intro t ht; simp at ht
            · rw [hag]; rw [rlOk]
          · exact hag
        · rw [if_neg e4] at hs
          exact absurd rfl hs
theorem loop_rel : ∀ (f : Nat) (c : PSch) (d : RSch) (s : St), ln s ≤ 801 → wdS s → (s ≠ none → SRel c d) → (rLoop f d s).2 = (pLoop f c s).2 ∧ ((pLoop f c s).2 ≠ none → SRel (pLoop f c s).1 (rLoop f d s).1)
  | 0, c, d, s, _, _, h => ⟨rfl, h⟩
  | f + 1, c, d, s, hl, hw, h => by
    rw [rLoop, pLoop]
    by_cases ha : atEnd s = true
    · rw [if_pos ha, if_pos ha]
      exact ⟨rfl, h⟩
    · rw [if_neg ha, if_neg ha]
      have hs : s ≠ none := by
        intro e
        rw [e] at ha
        exact ha rfl
      rw [def_state d c s hl]
      refine loop_rel f _ _ _ ?_ ?_ ?_
      · exact Nat.le_trans (ln_pDef c s) (Nat.le_trans (ln_nmT s) hl)
      · exact ((sub_pDef c s).trans (sub_nmT s)).wd hw
      · intro hn
        exact def_rel c d s hl hw (h hs) hn
theorem doneS_eq (s : St) : doneS s = doneP s := by
  match s with
  | none => rfl
  | some [] => rfl
  | some (t :: l) => rfl
theorem pLoop_none (f : Nat) (c : PSch) : pLoop f c none = (c, none) := pLoop_stop f c none rfl
theorem nm_empty (s : St) (h : isK s 1 = false) : nm s = ⟨#[]⟩ := by unfold nm; rw [h]; rfl
/-- the whole text: both end alike, and where they do not fail they have the same schema -/
theorem parse_rel (s : St) (hl : ln s ≤ 801) (hw : wdS s) : doneS (rParse s).2 = doneP (pParse s).2 ∧ (doneP (pParse s).2 = true → SRel (pParse s).1 (rParse s).1) := by
  by_cases ha : atEnd s = true
  · have hp : (pParse s).2 = none := by
      unfold pParse
      have hd : pDef c00 s = (c00, none) := by
        have hn : nm s = ⟨#[]⟩ := by
          apply nm_empty
          match s, ha with
          | none, _ => rfl
          | some [], _ => rfl
        unfold pDef
        rw [hn, if_neg (by decide), if_neg (by decide), if_neg (by decide), if_neg (by decide)]
      rw [hd]
      dsimp only
      rw [pLoop_none]
    have hr : (rParse s).2 = none := by
      unfold rParse
      have e : rStart s = none := by
        match s, ha with
        | none, _ => rfl
        | some [], _ => rfl
      rw [e, rLoop_stop _ _ none rfl]
    rw [hp, hr]
    exact ⟨rfl, fun h => by cases h⟩
  · have hs : s ≠ none := by
      intro e
      rw [e] at ha
      exact ha rfl
    have e : rParse s = rLoop 801 (rDef r00 s).1 (rDef r00 s).2 := by
      unfold rParse
      have e : rStart s = s := by
        match s, ha with
        | none, ha => rfl
        | some [], ha => exact absurd rfl ha
        | some (t :: l), _ => rfl
      rw [e, rLoop, if_neg ha]
    have hd := def_state r00 c00 s hl
    have H := loop_rel 801 (pDef c00 s).1 (rDef r00 s).1 (pDef c00 s).2 (Nat.le_trans (ln_pDef c00 s) (Nat.le_trans (ln_nmT s) hl)) (((sub_pDef c00 s).trans (sub_nmT s)).wd hw) (fun hn => def_rel c00 r00 s hl hw SRel.start hn)
    rw [e, hd]
    unfold pParse
    rw [H.1, doneS_eq]
    refine ⟨rfl, fun h => H.2 ?_⟩
    intro q
    rw [q] at h
    cases h
end Go.Proofs.YtpggfgjongkihaaGreat
namespace Go.Proofs.YtpggfgjongkihaaGreat
open Go.RowKit
theorem F2.get {α β : Type} {R : α → β → Prop} {l : List α} {m : List β} (h : F2 R l m) : ∀ (k : Nat) (a : α), l[k]? = some a → ∃ b, m[k]? = some b ∧ R a b := by
  induction h with
  | nil => intro k a hk; simp at hk
  | cons hr _ ih =>
    intro k a hk
    match k, hk with
    | 0, hk => simp at hk; subst hk; exact ⟨_, rfl, hr⟩
    | k + 1, hk => exact ih k a (by simpa using hk)
theorem F2.all {α β : Type} {R : α → β → Prop} {l : List α} {m : List β} (h : F2 R l m) {p : α → Bool} {q : β → Bool} (hpq : ∀ a b, R a b → p a = q b) : l.all p = m.all q := by
  induction h with
  | nil => rfl
  | cons hr _ ih => rw [List.all_cons, List.all_cons, hpq _ _ hr, ih]
theorem F2.map {α β γ : Type} {R : α → β → Prop} {l : List α} {m : List β} (h : F2 R l m) {f : α → γ} {g : β → γ} (hfg : ∀ a b, R a b → f a = g b) : l.map f = m.map g := by
  induction h with
  | nil => rfl
  | cons hr _ ih => rw [List.map_cons, List.map_cons, hfg _ _ hr, ih]
theorem dRel.name {d : RDef} {m : PD} (h : dRel d m) : d.name = m.name := by
  cases m with
  | o x => exact h.2.1
  | i x => rw [h.1]; rfl
  | u x => have : d = _ := h; rw [this]; rfl
theorem has_iff (l : List ByteArray) (x : ByteArray) : has l x = true ↔ x ∈ l := by
  unfold has; rw [decide_eq_true_eq]; exact idx_mem l x
theorem has_false (l : List ByteArray) (x : ByteArray) (h : ¬ x ∈ l) : has l x = false := by
  cases hh : has l x
  · rfl
  · exact absurd ((has_iff l x).1 hh) h
theorem known_mark (roles : List RRole) (x : ByteArray) : knownB roles x = markB (roles.map RRole.name) x := by
  unfold knownB markB has
  congr 1
  exact decide_eq_decide.2 (by omega)
theorem kind_one (a b c : List ByteArray) (x : ByteArray) : decide (kindN a b c x ≠ 1) = !scalB x := by
  unfold kindN
  cases scalB x
  · simp only [Bool.false_eq_true, if_false, Bool.not_false]
    apply decide_eq_true
    split
    · decide
    · split
      · decide
      · split <;> decide
  · simp
theorem arg_same (kind : ByteArray → Nat) (f : PFld) (h : okPF f) (hk : decide (kind (coreT f.ty) ≠ 1) = !scalB (coreT f.ty)) : argR (toR f) = argB kind f.arg f.ty := by
  unfold argR argB toR
  dsimp only
  rw [core_ty _ h.ty, isLs_ty _ h.ty, hk]
  by_cases e1 : f.arg = bId
  · have e2 : ¬ f.arg = bFirst := by rw [e1]; decide
    rw [if_pos e1, decide_eq_true e1, decide_eq_false e2]
    cases isList f.ty <;> cases scalB (coreT f.ty) <;> rfl
  · rw [if_neg e1, decide_eq_false e1]
    by_cases e2 : f.arg = bFirst
    · rw [if_pos e2, decide_eq_true e2]
      cases isList f.ty <;> rfl
    · rw [if_neg e2, decide_eq_false e2]; rfl
theorem fld_same (roles : List RRole) (names : List ByteArray) (kind : ByteArray → Nat) (f : PFld) (h : okPF f) (h0 : decide (kind (coreT f.ty) ≠ 0) = (scalB (coreT f.ty) || has names (coreT f.ty))) (h1 : decide (kind (coreT f.ty) ≠ 1) = !scalB (coreT f.ty)) : fldR roles names (toR f) = fldB (roles.map RRole.name) kind f := by
  unfold fldR fldB
  rw [arg_same kind f h h1, h0, known_mark, known_mark]
  have e : coreS (toR f).ty = coreT f.ty := core_ty _ h.ty
  rw [e]
  show (!und2 f.name && (markB _ f.auth && (markB _ f.hide_ && ((scalB (coreT f.ty) || has names (coreT f.ty)) && _)))) = _
  generalize (scalB (coreT f.ty) || has names (coreT f.ty)) = a
  generalize markB _ f.auth = b
  generalize markB _ f.hide_ = c
  cases a <;> cases b <;> cases c <;> simp
theorem flds_same (roles : List RRole) (names : List ByteArray) (kind : ByteArray → Nat) (l : List PFld) (h : ∀ f ∈ l, okPF f) (h0 : ∀ x, decide (kind x ≠ 0) = (scalB x || has names x)) (h1 : ∀ x, decide (kind x ≠ 1) = !scalB x) : (l.map toR).all (fldR roles names) = l.all (fldB (roles.map RRole.name) kind) := by
  induction l with
  | nil => rfl
  | cons f l ih =>
    rw [List.map_cons, List.all_cons, List.all_cons, fld_same roles names kind f (h f (by simp)) (h0 _) (h1 _), ih (fun g hg => h g (by simp [hg]))]
theorem fnames (l : List PFld) : (l.map toR).map RFld.name = l.map PFld.name := by
  rw [List.map_map]; rfl
theorem fit_same (f : PFld) (h : okPF f) : fitF (toR f) = fitB f := by
  unfold fitF fitB toR
  dsimp only
  rw [core_ty _ h.ty, isLs_ty _ h.ty]
  cases scalB (coreT f.ty) <;> cases isList f.ty <;> cases decide (f.arg = bE) <;> cases decide (f.auth = bE) <;> cases decide (f.hide_ = bE) <;> rfl
theorem fitAt_same (l : List PFld) (h : ∀ f ∈ l, okPF f) (n : ByteArray) : fitR (l.map toR) n = fitAt l n := by
  unfold fitR fitAt
  rw [fnames]
  split
  · rfl
  · rw [List.getElem?_map]
    cases hx : l[(idxI (l.map PFld.name) n).toNat]? with
    | none => rfl
    | some f => exact fit_same f (h f (List.mem_of_getElem? hx))
theorem leaf_same (rn : List ByteArray) (l : List PFld) (h : ∀ f ∈ l, okPF f) (x : Leaf) : leafR rn (l.map toR) x = leafB rn l x := by
  unfold leafR leafB
  split
  · rfl
  · exact fitAt_same l h x.2
theorem rf_same (f g : PFld) (hf : okPF f) (hg : okPF g) : rfEq (toR g) (toR f) = fsame f g := by
  unfold rfEq fsame toR
  dsimp only
  rw [same_ty _ _ hg.ty hf.ty, beq_bytes, beq_bytes, beq_bytes, beq_bytes, beq_bytes, Bool.eq_iff_iff]
  simp only [Bool.and_eq_true, decide_eq_true_eq, sameT_iff]
  constructor
  · rintro ⟨h1, h2, h3, h4, h5⟩
    exact ⟨h1.symm, h4.symm, h5.symm, h2.symm, by rw [hf.scal, hg.scal, h2], h3.symm⟩
  · rintro ⟨h1, h2, h3, h4, _, h6⟩
    exact ⟨h1.symm, h4.symm, h6.symm, h2.symm, h3.symm⟩
theorem same_same (l : List PFld) (h : ∀ f ∈ l, okPF f) (g : PFld) (hg : okPF g) : sameR (l.map toR) (toR g) = sameAt l g := by
  unfold sameR sameAt
  rw [fnames]
  show (if idxI (l.map PFld.name) g.name < 0 then false else _) = _
  split
  · rfl
  · rw [List.getElem?_map]
    show (match (l[(idxI (l.map PFld.name) g.name).toNat]?).map toR with | some f => rfEq f (toR g) | none => false) = _
    cases hx : l[(idxI (l.map PFld.name) g.name).toNat]? with
    | none => rfl
    | some f => exact rf_same g f hg (h f (List.mem_of_getElem? hx))
theorem sames_same (l k : List PFld) (h : ∀ f ∈ l, okPF f) (hk : ∀ f ∈ k, okPF f) : (k.map toR).all (sameR (l.map toR)) = k.all (sameAt l) := by
  induction k with
  | nil => rfl
  | cons g k ih => rw [List.map_cons, List.all_cons, List.all_cons, same_same l h g (hk g (by simp)), ih (fun f hf => hk f (by simp [hf]))]
theorem mem_objs (M : List PD) (x : ByteArray) : x ∈ (M.filterMap PD.isO).map PObj.name ↔ ∃ o, PD.o o ∈ M ∧ o.name = x := by
  rw [List.mem_map]
  constructor
  · rintro ⟨o, h, e⟩
    obtain ⟨m, hm, hq⟩ := List.mem_filterMap.1 h
    cases m with
    | o y => simp [PD.isO] at hq; subst hq; exact ⟨y, hm, e⟩
    | i y => cases hq
    | u y => cases hq
  · rintro ⟨o, h, e⟩
    exact ⟨o, List.mem_filterMap.2 ⟨_, h, rfl⟩, e⟩
theorem mem_ifs (M : List PD) (x : ByteArray) : x ∈ (M.filterMap PD.isI).map PIf.name ↔ ∃ o, PD.i o ∈ M ∧ o.name = x := by
  rw [List.mem_map]
  constructor
  · rintro ⟨o, h, e⟩
    obtain ⟨m, hm, hq⟩ := List.mem_filterMap.1 h
    cases m with
    | i y => simp [PD.isI] at hq; subst hq; exact ⟨y, hm, e⟩
    | o y => cases hq
    | u y => cases hq
  · rintro ⟨o, h, e⟩
    exact ⟨o, List.mem_filterMap.2 ⟨_, h, rfl⟩, e⟩
theorem mem_uns (M : List PD) (x : ByteArray) : x ∈ (M.filterMap PD.isU).map PUn.name ↔ ∃ o, PD.u o ∈ M ∧ o.name = x := by
  rw [List.mem_map]
  constructor
  · rintro ⟨o, h, e⟩
    obtain ⟨m, hm, hq⟩ := List.mem_filterMap.1 h
    cases m with
    | u y => simp [PD.isU] at hq; subst hq; exact ⟨y, hm, e⟩
    | i y => cases hq
    | o y => cases hq
  · rintro ⟨o, h, e⟩
    exact ⟨o, List.mem_filterMap.2 ⟨_, h, rfl⟩, e⟩
theorem pd_unique (M : List PD) (hn : (M.map PD.name).Nodup) {a b : PD} (ha : a ∈ M) (hb : b ∈ M) (h : a.name = b.name) : a = b := by
  obtain ⟨i, hi⟩ := List.mem_iff_getElem?.1 ha
  obtain ⟨j, hj⟩ := List.mem_iff_getElem?.1 hb
  have h1 : (M.map PD.name)[i]? = some a.name := by rw [List.getElem?_map, hi]; rfl
  have h2 : (M.map PD.name)[j]? = some b.name := by rw [List.getElem?_map, hj]; rfl
  have h3 := (List.getElem?_inj (List.getElem?_eq_some_iff.1 h1).1 hn).1 (h1.trans (by rw [h]; exact h2.symm))
  subst h3
  rw [hi] at hj
  exact Option.some.inj hj
def kindM (M : List PD) : ByteArray → Nat := kindN ((M.filterMap PD.isO).map PObj.name) ((M.filterMap PD.isI).map PIf.name) ((M.filterMap PD.isU).map PUn.name)
theorem kind_zero (M : List PD) (x : ByteArray) : decide (kindM M x ≠ 0) = (scalB x || has (M.map PD.name) x) := by
  unfold kindM kindN
  cases scalB x
  · simp only [Bool.false_eq_true, if_false, Bool.false_or]
    rw [Bool.eq_iff_iff]
    refine Iff.trans ?_ (has_iff _ _).symm
    constructor
    · intro h
      by_cases a : has ((M.filterMap PD.isO).map PObj.name) x = true
      · obtain ⟨o, h1, h2⟩ := (mem_objs M x).1 ((has_iff _ _).1 a)
        exact List.mem_map.2 ⟨_, h1, h2⟩
      · rw [if_neg a] at h
        by_cases b : has ((M.filterMap PD.isI).map PIf.name) x = true
        · obtain ⟨o, h1, h2⟩ := (mem_ifs M x).1 ((has_iff _ _).1 b)
          exact List.mem_map.2 ⟨_, h1, h2⟩
        · rw [if_neg b] at h
          by_cases c : has ((M.filterMap PD.isU).map PUn.name) x = true
          · obtain ⟨o, h1, h2⟩ := (mem_uns M x).1 ((has_iff _ _).1 c)
            exact List.mem_map.2 ⟨_, h1, h2⟩
          · rw [if_neg c] at h; simp at h
    · intro h
      obtain ⟨m, h1, h2⟩ := List.mem_map.1 h
      apply decide_eq_true
      cases m with
      | o y =>
        rw [if_pos ((has_iff _ _).2 ((mem_objs M x).2 ⟨y, h1, h2⟩))]; decide
      | i y =>
        split
        · decide
        · rw [if_pos ((has_iff _ _).2 ((mem_ifs M x).2 ⟨y, h1, h2⟩))]; decide
      | u y =>
        split
        · decide
        · split
          · decide
          · rw [if_pos ((has_iff _ _).2 ((mem_uns M x).2 ⟨y, h1, h2⟩))]; decide
  · simp
theorem kind_none (M : List PD) (x : ByteArray) (h : ¬ x ∈ M.map PD.name) : kindM M x ≤ 1 := by
  unfold kindM kindN
  split
  · exact Nat.le_refl _
  · rw [if_neg, if_neg, if_neg]
    · exact Nat.zero_le _
    · intro a
      obtain ⟨o, h1, h2⟩ := (mem_uns M x).1 ((has_iff _ _).1 a)
      exact h (List.mem_map.2 ⟨_, h1, h2⟩)
    · intro a
      obtain ⟨o, h1, h2⟩ := (mem_ifs M x).1 ((has_iff _ _).1 a)
      exact h (List.mem_map.2 ⟨_, h1, h2⟩)
    · intro a
      obtain ⟨o, h1, h2⟩ := (mem_objs M x).1 ((has_iff _ _).1 a)
      exact h (List.mem_map.2 ⟨_, h1, h2⟩)
def PD.kind : PD → Nat
  | .o _ => 2
  | .i _ => 3
  | .u _ => 4
theorem kind_at (M : List PD) (hn : (M.map PD.name).Nodup) (m : PD) (hm : m ∈ M) (hs : scalB m.name = false) : kindM M m.name = m.kind := by
  unfold kindM kindN
  rw [hs]
  simp only [Bool.false_eq_true, if_false]
  have ho : has ((M.filterMap PD.isO).map PObj.name) m.name = true → ∃ y, m = .o y := by
    intro a
    obtain ⟨o, h1, h2⟩ := (mem_objs M _).1 ((has_iff _ _).1 a)
    exact ⟨o, pd_unique M hn hm h1 h2.symm⟩
  have hi : has ((M.filterMap PD.isI).map PIf.name) m.name = true → ∃ y, m = .i y := by
    intro a
    obtain ⟨o, h1, h2⟩ := (mem_ifs M _).1 ((has_iff _ _).1 a)
    exact ⟨o, pd_unique M hn hm h1 h2.symm⟩
  cases m with
  | o y => rw [if_pos ((has_iff _ _).2 ((mem_objs M (PD.o y).name).2 ⟨y, hm, rfl⟩))]; rfl
  | i y =>
    rw [if_neg (fun a => by obtain ⟨z, e⟩ := ho a; cases e), if_pos ((has_iff _ _).2 ((mem_ifs M (PD.i y).name).2 ⟨y, hm, rfl⟩))]; rfl
  | u y =>
    rw [if_neg (fun a => by obtain ⟨z, e⟩ := ho a; cases e), if_neg (fun a => by obtain ⟨z, e⟩ := hi a; cases e), if_pos ((has_iff _ _).2 ((mem_uns M (PD.u y).name).2 ⟨y, hm, rfl⟩))]; rfl
theorem if_at (M : List PD) (hn : (M.map PD.name).Nodup) (y : PIf) (hm : PD.i y ∈ M) : ifFields (M.filterMap PD.isI) y.name = y.fields := by
  unfold ifFields
  obtain ⟨k, a, h1, h2, h3, _⟩ := idx_any PIf.name (M.filterMap PD.isI) y.name ((idx_mem _ _).2 ((mem_ifs M _).2 ⟨y, hm, rfl⟩))
  rw [h1, Int.toNat_natCast, h2]
  obtain ⟨m, hm2, hq⟩ := List.mem_filterMap.1 (List.mem_of_getElem? h2)
  cases m with
  | i z =>
    simp [PD.isI] at hq
    subst hq
    have := pd_unique M hn hm hm2 h3.symm
    cases this
    rfl
  | o z => cases hq
  | u z => cases hq
theorem obj_at (M : List PD) (hn : (M.map PD.name).Nodup) (y : PObj) (hm : PD.o y ∈ M) : ¬ idxI ((M.filterMap PD.isO).map PObj.name) y.name < 0 ∧ (M.filterMap PD.isO)[(idxI ((M.filterMap PD.isO).map PObj.name) y.name).toNat]? = some y := by
  have h0 := (idx_mem _ _).2 ((mem_objs M y.name).2 ⟨y, hm, rfl⟩)
  refine ⟨h0, ?_⟩
  obtain ⟨k, a, h1, h2, h3, _⟩ := idx_any PObj.name (M.filterMap PD.isO) y.name h0
  rw [h1, Int.toNat_natCast, h2]
  obtain ⟨m, hm2, hq⟩ := List.mem_filterMap.1 (List.mem_of_getElem? h2)
  cases m with
  | o z =>
    simp [PD.isO] at hq
    subst hq
    have := pd_unique M hn hm hm2 h3.symm
    cases this
    rfl
  | i z => cases hq
  | u z => cases hq
/-- a name that is looked up: none has it, or the same definition on both sides -/
theorem look (defs : List RDef) (M : List PD) (h : F2 dRel defs M) (x : ByteArray) : (idxI (defs.map RDef.name) x < 0 ∧ ¬ x ∈ M.map PD.name) ∨ ∃ (k : Nat) (t : RDef) (m : PD), idxI (defs.map RDef.name) x = k ∧ defs[k]? = some t ∧ m ∈ M ∧ dRel t m ∧ m.name = x := by
  have hnm : defs.map RDef.name = M.map PD.name := h.map (fun a b hr => dRel.name hr)
  by_cases hx : idxI (defs.map RDef.name) x < 0
  · left
    refine ⟨hx, fun hm => ?_⟩
    rw [← hnm] at hm
    exact (idx_mem _ _).2 hm hx
  · right
    obtain ⟨k, t, h1, h2, h3, _⟩ := idx_any RDef.name defs x hx
    obtain ⟨m, h4, h5⟩ := h.get k t h2
    exact ⟨k, t, m, h1, h2, List.mem_of_getElem? h4, h5, by rw [← dRel.name h5, h3]⟩
end Go.Proofs.YtpggfgjongkihaaGreat
namespace Go.Proofs.YtpggfgjongkihaaGreat
open Go.RowKit
theorem all_and {α : Type} (l : List α) (p q : α → Bool) : (l.all fun x => p x && q x) = (l.all p && l.all q) := by
  induction l with
  | nil => rfl
  | cons x l ih =>
    rw [List.all_cons, List.all_cons, List.all_cons, ih]
    cases p x <;> cases q x <;> cases l.all p <;> cases l.all q <;> rfl
theorem abv_impl (defs : List RDef) (M : List PD) (h : F2 dRel defs M) (hn : (M.map PD.name).Nodup) (hs : ∀ m ∈ M, scalB m.name = false) (d : RDef) (x : PObj) (hd : dRel d (.o x)) (n : ByteArray) : abvR defs d n = (decide (kindM M n = 3) && (ifFields (M.filterMap PD.isI) n).all (sameAt x.fields)) := by
  obtain ⟨d1, _, d3, _, _, _, d7⟩ := hd
  rcases look defs M h n with ⟨h1, h2⟩ | ⟨k, t, m, h1, h2, h3, h4, h5⟩
  · rw [abvR_neg h1]
    have := kind_none M n h2
    rw [decide_eq_false (by omega), Bool.false_and]
  · rw [abvR_at h1 h2, if_neg (by rw [d1]; decide)]
    have hk := kind_at M hn m h3 (hs m h3)
    rw [h5] at hk
    rw [hk]
    cases m with
    | o y =>
      rw [h4.1]; rfl
    | i y =>
      have e := h4.1
      have hf := if_at M hn y h3
      rw [show y.name = n from h5] at hf
      rw [hf, e, d3]
      show (true && (y.fields.map toR).all (sameR (x.fields.map toR))) = (true && y.fields.all (sameAt x.fields))
      rw [sames_same _ _ d7 h4.2]
    | u y =>
      have e : t = _ := h4
      rw [e]; rfl
theorem abv_mem (defs : List RDef) (M : List PD) (h : F2 dRel defs M) (hn : (M.map PD.name).Nodup) (hs : ∀ m ∈ M, scalB m.name = false) (d : RDef) (hd : d.sort = 2) (n : ByteArray) : abvR defs d n = decide (kindM M n = 2) := by
  rcases look defs M h n with ⟨h1, h2⟩ | ⟨k, t, m, h1, h2, h3, h4, h5⟩
  · rw [abvR_neg h1]
    have := kind_none M n h2
    rw [decide_eq_false (by omega)]
  · rw [abvR_at h1 h2, if_pos hd]
    have hk := kind_at M hn m h3 (hs m h3)
    rw [h5] at hk
    rw [hk]
    cases m with
    | o y => rw [h4.1]; rfl
    | i y => rw [h4.1]; rfl
    | u y =>
      have e : t = _ := h4
      rw [e]; rfl
/-- a definition is right for both -/
def oneM (rn : List ByteArray) (M : List PD) : PD → Bool
  | .o x => objB rn (kindM M) (M.filterMap PD.isI) x
  | .i x => fldsB rn (kindM M) x.fields
  | .u x => allK (kindM M) 2 x.members
theorem def_same (roles : List RRole) (defs : List RDef) (M : List PD) (h : F2 dRel defs M) (hn : (M.map PD.name).Nodup) (hs : ∀ m ∈ M, scalB m.name = false) (d : RDef) (m : PD) (hd : dRel d m) : defR roles defs d = oneM (roles.map RRole.name) M m := by
  have hnm : defs.map RDef.name = M.map PD.name := h.map (fun a b hr => dRel.name hr)
  have k0 : ∀ x, decide (kindM M x ≠ 0) = (scalB x || has (defs.map RDef.name) x) := fun x => by rw [hnm]; exact kind_zero M x
  have k1 : ∀ x, decide (kindM M x ≠ 1) = !scalB x := fun x => kind_one _ _ _ x
  unfold defR
  cases m with
  | o x =>
    have hab : d.above.all (abvR defs d) = (x.impl.all fun n => decide (kindM M n = 3) && (ifFields (M.filterMap PD.isI) n).all (sameAt x.fields)) := by
      rw [hd.2.2.2.1]
      congr 1
      funext n
      exact abv_impl defs M h hn hs d x hd n
    obtain ⟨d1, d2, d3, d4, d5, d6, d7⟩ := hd
    rw [hab, all_and, d3, fnames, apart_nodup, apart_nodup, flds_same roles _ (kindM M) x.fields d7 k0 k1, d4, d6]
    show _ = objB _ _ _ x
    unfold objB fldsB implB allK
    have hr : (x.rule.getD []).all (leafR (roles.map RRole.name) (x.fields.map toR)) = ruleB (roles.map RRole.name) x.fields x.rule := by
      have e : (leafR (roles.map RRole.name) (x.fields.map toR)) = leafB (roles.map RRole.name) x.fields := funext (leaf_same _ x.fields d7)
      rw [e]
      cases x.rule <;> rfl
    rw [hr]
    cases x.fields.all (fldB (roles.map RRole.name) (kindM M)) <;> cases nodupB (x.fields.map PFld.name) <;> cases nodupB x.impl <;> cases (x.impl.all fun n => decide (kindM M n = 3)) <;> cases (x.impl.all fun n => (ifFields (M.filterMap PD.isI) n).all (sameAt x.fields)) <;> rfl
  | i x =>
    obtain ⟨e, d7⟩ := hd
    rw [e]
    dsimp only
    rw [fnames, apart_nodup, apart_nodup, flds_same roles _ (kindM M) x.fields d7 k0 k1, rl]
    show _ = fldsB _ _ x.fields
    unfold fldsB
    simp [nodupB]
  | u x =>
    have e : d = _ := hd
    have hab : d.above.all (abvR defs d) = x.members.all fun n => decide (kindM M n = 2) := by
      have e1 : d.above = x.members := by rw [e]
      rw [e1]
      congr 1
      funext n
      exact abv_mem defs M h hn hs d (by rw [e]) n
    rw [hab, e]
    dsimp only
    rw [apart_nodup, apart_nodup, rl]
    show _ = allK _ _ x.members
    unfold allK
    simp [nodupB]
theorem ones_same (rn : List ByteArray) (M N : List PD) : N.all (oneM rn M) = ((N.filterMap PD.isO).all (objB rn (kindM M) (M.filterMap PD.isI)) && (((N.filterMap PD.isI).all fun i => fldsB rn (kindM M) i.fields) && ((N.filterMap PD.isU).all fun u => allK (kindM M) 2 u.members))) := by
  rw [Bool.eq_iff_iff]
  simp only [Bool.and_eq_true, List.all_eq_true]
  constructor
  · intro h
    refine ⟨fun x hx => ?_, fun x hx => ?_, fun x hx => ?_⟩
    · obtain ⟨m, hm, hq⟩ := List.mem_filterMap.1 hx
      cases m with
      | o y => simp [PD.isO] at hq; subst hq; exact h _ hm
      | i y => cases hq
      | u y => cases hq
    · obtain ⟨m, hm, hq⟩ := List.mem_filterMap.1 hx
      cases m with
      | i y => simp [PD.isI] at hq; subst hq; exact h _ hm
      | o y => cases hq
      | u y => cases hq
    · obtain ⟨m, hm, hq⟩ := List.mem_filterMap.1 hx
      cases m with
      | u y => simp [PD.isU] at hq; subst hq; exact h _ hm
      | i y => cases hq
      | o y => cases hq
  · rintro ⟨h1, h2, h3⟩ m hm
    cases m with
    | o y => exact h1 y (List.mem_filterMap.2 ⟨_, hm, rfl⟩)
    | i y => exact h2 y (List.mem_filterMap.2 ⟨_, hm, rfl⟩)
    | u y => exact h3 y (List.mem_filterMap.2 ⟨_, hm, rfl⟩)
theorem query_same (defs : List RDef) (M : List PD) (h : F2 dRel defs M) (hn : (M.map PD.name).Nodup) : queryR defs = queryB (M.filterMap PD.isO) := by
  have hno : (∀ y, PD.o y ∈ M → y.name ≠ bQ) → queryB (M.filterMap PD.isO) = false := by
    intro hq
    unfold queryB
    rw [if_pos]
    by_cases hx : idxI ((M.filterMap PD.isO).map PObj.name) bQuery < 0
    · exact hx
    · obtain ⟨y, h1, h2⟩ := (mem_objs M _).1 ((idx_mem _ _).1 hx)
      exact absurd h2 (hq y h1)
  rcases look defs M h bQ with ⟨h1, h2⟩ | ⟨k, t, m, h1, h2, h3, h4, h5⟩
  · rw [hno (fun y hy e => h2 (List.mem_map.2 ⟨_, hy, e⟩))]
    unfold queryR
    rw [if_pos h1]
  · rw [queryR_at h1 h2]
    cases m with
    | o y =>
      obtain ⟨q1, q2⟩ := obj_at M hn y h3
      rw [show y.name = bQuery from h5] at q1 q2
      unfold queryB
      rw [if_neg q1, q2, h4.1, h4.2.2.2.2.1]
      show (true && !y.rule.isSome) = y.rule.isNone
      cases y.rule <;> rfl
    | i y =>
      rw [hno (fun z hz e => by
        have := pd_unique M hn h3 hz (by rw [h5]; exact e.symm)
        cases this)]
      rw [h4.1]; rfl
    | u y =>
      rw [hno (fun z hz e => by
        have := pd_unique M hn h3 hz (by rw [h5]; exact e.symm)
        cases this)]
      have e : t = _ := h4
      rw [e]; rfl
/-- the same schema is right for both, or for none -/
theorem right_same (c : PSch) (d : RSch) (h : SRel c d) : rightR d.roles d.defs = rightP c := by
  obtain ⟨M, m1, m2, m3, m4, m5⟩ := h.ex
  have hnm : d.defs.map RDef.name = M.map PD.name := m5.map (fun a b hr => dRel.name hr)
  unfold rightR rightP
  rw [h.roles, roles_agree, apart_nodup, hnm, m4]
  cases hnb : namesB (M.map PD.name)
  · rw [Bool.false_and, Bool.and_false]
    unfold namesB at hnb
    cases hnd : nodupB (M.map PD.name)
    · rw [Bool.and_false, Bool.and_false, Bool.and_false]
    · rw [hnd, Bool.and_true] at hnb
      have : d.defs.all (oneR c.roles d.defs) = false := by
        cases hh : d.defs.all (oneR c.roles d.defs)
        · rfl
        · exfalso
          rw [List.all_eq_true] at hh
          have : ((M.map PD.name).all fun x => !scalB x) = true := by
            rw [List.all_eq_true, ← hnm]
            intro x hx
            obtain ⟨y, hy, e⟩ := List.mem_map.1 hx
            have h1 := hh y hy
            unfold oneR at h1
            rw [Bool.and_eq_true] at h1
            rw [← e]; exact h1.1
          rw [this] at hnb; cases hnb
      rw [this, Bool.false_and, Bool.and_false, Bool.and_false]
  · unfold namesB at hnb
    rw [Bool.and_eq_true, List.all_eq_true] at hnb
    obtain ⟨hsc, hnd⟩ := hnb
    have hn := (nodupB_iff _).1 hnd
    have hs : ∀ m ∈ M, scalB m.name = false := by
      intro m hm
      have := hsc m.name (List.mem_map.2 ⟨m, hm, rfl⟩)
      simpa using this
    have hones : d.defs.all (oneR c.roles d.defs) = M.all (oneM (c.roles.map RRole.name) M) := by
      have key : ∀ (l : List RDef) (N : List PD), F2 dRel l N → (∀ m ∈ N, m ∈ M) → l.all (oneR c.roles d.defs) = N.all (oneM (c.roles.map RRole.name) M) := by
        intro l N hf
        induction hf with
        | nil => intro _; rfl
        | @cons a b l N hr _ ih =>
          intro hsub
          rw [List.all_cons, List.all_cons, ih (fun m hm => hsub m (by simp [hm]))]
          unfold oneR
          rw [def_same c.roles d.defs M m5 hn hs a b hr, dRel.name hr, hs b (hsub b (by simp))]
          rfl
      exact key _ _ m5 (fun m hm => hm)
    rw [hones, hnd, ones_same, query_same d.defs M m5 hn, Bool.and_true, Bool.true_and, m1, m2, m3]
    have hk : kindC c = kindM M := by unfold kindC kindM; rw [m1, m2, m3]
    rw [hk]
    generalize (M.filterMap PD.isO).all (objB (c.roles.map RRole.name) (kindM M) (M.filterMap PD.isI)) = b1
    generalize ((M.filterMap PD.isI).all fun i => fldsB (c.roles.map RRole.name) (kindM M) i.fields) = b2
    generalize ((M.filterMap PD.isU).all fun u => allK (kindM M) 2 u.members) = b3
    cases b1 <;> cases b2 <;> cases b3 <;> cases queryB (M.filterMap PD.isO) <;> rfl
theorem ln_cutS (x : ByteArray) : ln (cutS x) ≤ 801 := by
  cases hq : cutS x with
  | none => exact Nat.zero_le _
  | some l =>
    have := (cutS_ok x l hq).2
    show l.length + 1 ≤ 801
    omega
theorem wd_cutS (x : ByteArray) : wdS (cutS x) := by
  cases hq : cutS x with
  | none => exact wd_none
  | some l => exact fun t ht => ⟨(cutS_ok x l hq).1 t ht, cutS_wd x l hq t ht⟩
/-- both checks answer the same, as plain functions -/
theorem check_same (x : ByteArray) : checkR x = checkP x := by
  obtain ⟨h1, h2⟩ := parse_rel (cutS x) (ln_cutS x) (wd_cutS x)
  unfold checkR checkP
  rw [h1]
  cases hd : doneP (pParse (cutS x)).2
  · rfl
  · rw [right_same _ _ (h2 hd)]
theorem defs_ok (x : ByteArray) (h : doneS (rParse (cutS x)).2 = true) : ∀ d ∈ (rParse (cutS x)).1.defs, okDef d := by
  obtain ⟨h1, h2⟩ := parse_rel (cutS x) (ln_cutS x) (wd_cutS x)
  rw [h1] at h
  exact (h2 h).ok
end Go.Proofs.YtpggfgjongkihaaGreat
