/- Fields of the reference: the plain functions; blocks that stay. The program's parser: what it makes, as plain data. -/
import Derived.Test.YtpggfgjongkihaaGreatM05
import Derived.Deep.LoopGhost
namespace Go.Proofs.YtpggfgjongkihaaGreat
open Go.RowKit
theorem Keep.at {b F : Nat} {w w' : World} {o : Obj} (h : Keep b w w') (hF : w.heap[F]? = some o) (hne : F ≠ b) : w'.heap[F]? = some o := by
  rw [h.block F (lt_of_block hF) hne]; exact hF
theorem RS.set {w : World} {b : Nat} {L : Value} {ts : List Tk} {s : St} {F : Nat} {cs : Array Value} {T : TypeId} {fr : Nat × Nat} (h : RS w b L ts s) (hF : w.heap[F]? = some (.cells cs T fr)) (h1 : T ≠ 89) (h2 : T ≠ 137) (i : Nat) (v : Value) : RS (w.setCell ⟨F, i, none⟩ v) b L ts s := by
  obtain ⟨a, bad, q1, q2, q3⟩ := h.st
  have hne : b ≠ F := fun e => by subst e; rw [q1] at hF; cases hF; exact h1 rfl
  refine ⟨⟨a, bad, by rw [Below.heap_setCell _ _ _ _ hne]; exact q1, q2, q3⟩, ?_, h.len, h.wf⟩
  exact ownsRow_keep h.row ((Keep.refl F w).setCell i v) hF h2
theorem set_other_at {w : World} {F N : Nat} {o : Obj} (h : w.heap[F]? = some o) (hne : F ≠ N) (i : Nat) (v : Value) : (w.setCell ⟨N, i, none⟩ v).heap[F]? = some o := by
  rw [Below.heap_setCell _ _ _ _ hne]; exact h
theorem two_R (w : World) (o o' : Obj) : ((w.alloc o).alloc o').heap[w.heap.size]? = some o := by
  rw [alloc_other _ _ _ (by simp), heap_alloc_new]
theorem two_F (w : World) (o o' : Obj) : ((w.alloc o).alloc o').heap[w.heap.size + 1]? = some o' := by
  have := heap_alloc_new (w.alloc o) o'
  rwa [show (w.alloc o).heap.size = w.heap.size + 1 by simp] at this
theorem two_below (w : World) (o o' : Obj) : Below w.heap.size w ((w.alloc o).alloc o') := ((Below.refl _ _).alloc (Nat.le_refl _) _).alloc (by simp) _
theorem beq_lit (y : ByteArray) (l : List UInt8) : (y.toList == l) = decide (y = ofB l) := by
  rw [Lib.toList_data, Bool.eq_iff_iff]
  simp only [beq_iff_eq, decide_eq_true_eq]
  constructor
  · intro h; apply ByteArray.ext; apply Array.toList_inj.1; rw [h]; simp [ofB]
  · intro h; rw [h]; simp [ofB]
structure RFld where
  name : ByteArray
  arg : ByteArray
  ty : ByteArray
  auth : ByteArray
  hide_ : ByteArray
def bE : ByteArray := ⟨#[]⟩
def bId : ByteArray := ofB [105, 100]
def bID : ByteArray := ofB [73, 68]
def bFirst : ByteArray := ofB [102, 105, 114, 115, 116]
def bInt : ByteArray := ofB [73, 110, 116]
def bAuth : ByteArray := ofB [97, 117, 116, 104]
def bHide : ByteArray := ofB [104, 105, 100, 101]
def badArg (a t : ByteArray) : Bool := (!decide (a = bId) || !decide (t = bID)) && (!decide (a = bFirst) || !decide (t = bInt))
def rMarks : Nat → St → ByteArray → ByteArray → (ByteArray × ByteArray) × St
  | 0, s, a, h => ((a, h), s)
  | f + 1, s, a, h =>
    if isK s 11 = true then
      let s1 := tl s
      let s2 := nmT s1
      let s3 := mustT s2 (isK s2 7)
      let s4 := nmT s3
      let s5 := mustT s4 (isK s4 8)
      if nm s1 = bAuth ∧ a = bE then rMarks f s5 (nm s3) h
      else if nm s1 = bHide ∧ h = bE then rMarks f s5 a (nm s3)
      else ((a, h), none)
    else ((a, h), s)
def rArg (s1 : St) : ByteArray × St :=
  if isK s1 7 = true then
    let s2 := tl s1
    let s3 := nmT s2
    let s4 := mustT s3 (isK s3 9)
    let s5 := nmT s4
    let s6 := if badArg (nm s2) (nm s4) = true then none else s5
    (nm s2, mustT s6 (isK s6 8))
  else (bE, s1)
def rField (s : St) : RFld × St :=
  let p := rArg (nmT s)
  let s8 := mustT p.2 (isK p.2 9)
  let ty := rType 801 s8
  let mk := rMarks 801 ty.2 bE bE
  (⟨nm s, p.1, ty.1, mk.1.1, mk.1.2⟩, mk.2)
def fldV (f : RFld) : Array Value := #[.string f.name, .string f.arg, .string f.ty, .string f.auth, .string f.hide_]
theorem ln_nmT (s : St) : ln (nmT s) ≤ ln s := by
  unfold nmT; split
  · exact ln_tl_le s
  · simp [ln]
theorem ln_mustT (s : St) (b : Bool) : ln (mustT s b) ≤ ln s := by
  unfold mustT; split
  · exact ln_tl_le s
  · simp [ln]
theorem isNone_isK (s : St) (h : s.isNone = true) (k : Nat) (hk : k ≠ 0) : isK s k = false := by
  match s, h with
  | none, _ => exact isK_none k hk
end Go.Proofs.YtpggfgjongkihaaGreat
namespace Go.Proofs.YtpggfgjongkihaaGreat
open Go.RowKit
inductive PTy where
  | one (n : ByteArray) (st : Bool)
  | list (t : PTy) (st : Bool)
def TyAt (w : World) (B : Nat) : Value → PTy → Prop
  | v, .one n st => ∃ k, v = .pointer (some ⟨k, 0, none⟩) ∧ B ≤ k ∧ w.heap[k]? = some (.cells #[.string n, .int .i64 0, .pointer none, .bool st] 257 (0, 0))
  | v, .list t st => ∃ k u, v = .pointer (some ⟨k, 0, none⟩) ∧ B ≤ k ∧ w.heap[k]? = some (.cells #[.string ⟨#[]⟩, .int .i64 1, u, .bool st] 257 (0, 0)) ∧ TyAt w B u t
def pType : Nat → St → PTy × St
  | 0, s => (.one ⟨#[]⟩ false, s)
  | f + 1, s =>
    if isK s 12 = true then
      (.list (pType f (tl s)).1 (isK (mustT (pType f (tl s)).2 (isK (pType f (tl s)).2 13)) 5), mayT (mustT (pType f (tl s)).2 (isK (pType f (tl s)).2 13)) (isK (mustT (pType f (tl s)).2 (isK (pType f (tl s)).2 13)) 5))
    else (.one (nm s) (isK (nmT s) 5), mayT (nmT s) (isK (nmT s) 5))
/-- blocks of a type, from a bound on, stay -/
def Stay (T : TypeId) (B : Nat) (w w' : World) : Prop := ∀ k cs fr, B ≤ k → w.heap[k]? = some (.cells cs T fr) → w'.heap[k]? = some (.cells cs T fr)
theorem Stay.refl (T : TypeId) (B : Nat) (w : World) : Stay T B w w := fun _ _ _ _ h => h
theorem Stay.mono {T : TypeId} {B C : Nat} {w w' : World} (h : Stay T B w w') (hc : B ≤ C) : Stay T C w w' := fun k cs fr hk => h k cs fr (Nat.le_trans hc hk)
theorem Stay.trans {T : TypeId} {B : Nat} {x y z : World} (h : Stay T B x y) (k : Stay T B y z) : Stay T B x z := fun i cs fr c a => k i cs fr c (h i cs fr c a)
theorem Stay.of_below {T : TypeId} {B : Nat} {w w' : World} (h : Below w.heap.size w w') : Stay T B w w' := fun k cs fr _ a => by rw [h.block k (lt_of_block a)]; exact a
theorem Stay.of_keep {T : TypeId} {B : Nat} {w w' : World} {b : Nat} {cs : Array Value} {T' : TypeId} {fr : Nat × Nat} (h : Keep b w w') (hb : w.heap[b]? = some (.cells cs T' fr)) (hT : T' ≠ T) : Stay T B w w' := fun k c fr' _ a => by
  rw [h.block k (lt_of_block a) (fun e => by subst e; rw [hb] at a; cases a; exact hT rfl)]; exact a
theorem Stay.keepF {T : TypeId} {B F : Nat} {w w' : World} (h : Keep F w w') (hF : F < B) : Stay T B w w' := fun k c fr' hk a => by
  rw [h.block k (lt_of_block a) (by omega)]; exact a
theorem Stay.set {T : TypeId} {B F : Nat} {w : World} (hF : F < B) (i : Nat) (v : Value) : Stay T B w (w.setCell ⟨F, i, none⟩ v) := Stay.keepF ((Keep.refl F w).setCell i v) hF
theorem Stay.setT {T : TypeId} {B F : Nat} {w : World} {cs : Array Value} {T' : TypeId} {fr : Nat × Nat} (hF : w.heap[F]? = some (.cells cs T' fr)) (hT : T' ≠ T) (i : Nat) (v : Value) : Stay T B w (w.setCell ⟨F, i, none⟩ v) := Stay.of_keep ((Keep.refl F w).setCell i v) hF hT
theorem Stay.alloc {T : TypeId} {B : Nat} {w : World} (o : Obj) : Stay T B w (w.alloc o) := Stay.of_below ((Below.refl _ _).alloc (Nat.le_refl _) _)
theorem TyAt.stays {B : Nat} {w w' : World} (h : Stay 257 B w w') : ∀ {v : Value} {t : PTy}, TyAt w B v t → TyAt w' B v t
  | _, .one _ _, ⟨k, h1, hb, h2⟩ => ⟨k, h1, hb, h k _ _ hb h2⟩
  | _, .list _ _, ⟨k, u, h1, hb, h2, h3⟩ => ⟨k, u, h1, hb, h k _ _ hb h2, TyAt.stays h h3⟩
theorem TyAt.mono {B C : Nat} {w : World} (hc : C ≤ B) : ∀ {v : Value} {t : PTy}, TyAt w B v t → TyAt w C v t
  | _, .one _ _, ⟨k, h1, hb, h2⟩ => ⟨k, h1, Nat.le_trans hc hb, h2⟩
  | _, .list _ _, ⟨k, u, h1, hb, h2, h3⟩ => ⟨k, u, h1, Nat.le_trans hc hb, h2, TyAt.mono hc h3⟩
theorem ln_mayT (s : St) (b : Bool) : ln (mayT s b) ≤ ln s := by
  unfold mayT; split
  · exact ln_tl_le s
  · exact Nat.le_refl _
end Go.Proofs.YtpggfgjongkihaaGreat
