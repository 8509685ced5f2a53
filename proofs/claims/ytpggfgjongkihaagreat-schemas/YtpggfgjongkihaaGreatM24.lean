/- The program's checks: places, distinct. The program's checks: allOfKind, fieldsRight, and over the lists. The program's checks: fieldsRight, interfacesRight, unionsRight, namesRight, queryRight. The program's checks: same. The program's checks: implementsRight. The program's checks: objectsRight. -/
import Derived.Test.YtpggfgjongkihaaGreatM23
import Derived.Maps.OwnSet
import Derived.Maps.OwnOps
import Derived.Maps.Views
import Derived.StringKeys
import Derived.Test.YtpggfgjongkihaaGreatM10
namespace Go.Proofs.YtpggfgjongkihaaGreat
open Go.RowKit
open Go.Maps
open Go.ChangeMaps
def kl (x : ByteArray) : Lit := .string x.data.toList
theorem kl_inj {x y : ByteArray} (h : kl x = kl y) : x = y := by
  unfold kl at h
  simp only [Lit.string.injEq] at h
  apply ByteArray.ext; exact Array.toList_inj.1 h
theorem kl_key (x : ByteArray) : WideAt.IsKeyLit (kl x) := by unfold kl; trivial
theorem keyLaw : Keyed Tryz.prog 9 := string_keyed Tryz.underlying9
theorem zeroE (w : World) : (zeroValue 3).run Tryz.prog w = .ok (.int .i64 0) w := by kernel_rfl
theorem keyOf_name (x : ByteArray) (h : x.size ≤ 4000) : keyOf Tryz.prog 9 (.string x) = some (kl x) := Go.WideMaps.keyOf_string_mk Tryz.underlying9 (by unfold maxLen; omega)
def nodupB : List ByteArray → Bool
  | [] => true
  | x :: r => !memB x r && nodupB r
theorem nodupB_iff : ∀ l : List ByteArray, nodupB l = true ↔ l.Nodup
  | [] => by simp [nodupB]
  | x :: r => by
    rw [nodupB, List.nodup_cons, Bool.and_eq_true, nodupB_iff r]
    constructor
    · rintro ⟨h1, h2⟩; refine ⟨fun hx => ?_, h2⟩; rw [(memB_true x r).2 hx] at h1; cases h1
    · rintro ⟨h1, h2⟩; exact ⟨by rw [memB_false x r h1]; rfl, h2⟩
theorem mm105 (n : Int) (w : World) : (Instr.makeMap 72 (some (.int .i64 n))).run Tryz.prog w = .ok (.map (some w.heap.size)) (w.alloc (.map #[] 0)) := by
  unfold Instr.makeMap
  simp [go_sem]
structure PM (l : List ByteArray) (D : DataW Unit) : Prop where
  tidy : Tidy D
  hasP : ∀ x, Maps.has D (kl x) = memB x l
  val : ∀ x, x ∈ l → ∃ j : Nat, l[j]? = some x ∧ ∀ z, D.atKey (kl x) z = .lit (.int .i64 j)
  le : Maps.size D ≤ l.length
  eq : Maps.size D = l.length ↔ l.Nodup
theorem PM.nil : PM [] (.map []) := ⟨tidy_empty, fun x => by simp [Maps.has, memB], fun x hx => by simp at hx, by simp [Maps.size], by simp [Maps.size]⟩
theorem nodup_snoc (l : List ByteArray) (x : ByteArray) : (l ++ [x]).Nodup ↔ l.Nodup ∧ x ∉ l := by
  rw [List.nodup_append]
  constructor
  · rintro ⟨h1, _, h3⟩; exact ⟨h1, fun hx => h3 x hx x (by simp) rfl⟩
  · rintro ⟨h1, h2⟩; refine ⟨h1, by simp, fun a ha b hb e => ?_⟩
    simp at hb; subst hb; subst e; exact h2 ha
theorem PM.snoc {l : List ByteArray} {D : DataW Unit} (h : PM l D) (x : ByteArray) : PM (l ++ [x]) (D.put (kl x) (.lit (.int .i64 l.length))) := by
  have hsz := size_put (k := kl x) h.tidy (.lit (.int .i64 l.length))
  rw [h.hasP x] at hsz
  refine ⟨h.tidy.put (kl_key x) _, fun y => ?_, fun y hy => ?_, ?_, ?_⟩
  · rw [memB_snoc]
    by_cases e : y = x
    · subst e; rw [has_put_same h.tidy.isMap (kl_key y)]; simp
    · rw [has_put_other (fun h' => e (kl_inj h')), h.hasP y, decide_eq_false (fun e' => e e'.symm)]; simp
  · by_cases e : y = x
    · subst e; exact ⟨l.length, by simp, fun z => atKey_put_same h.tidy.isMap (kl_key y) _ z⟩
    · have hy' : y ∈ l := by simpa [e] using hy
      obtain ⟨j, h1, h2⟩ := h.val y hy'
      exact ⟨j, by rw [List.getElem?_append_left (List.getElem?_eq_some_iff.1 h1).1]; exact h1, fun z => by rw [atKey_put_other (fun h' => e (kl_inj h'))]; exact h2 z⟩
  · rw [hsz]; have := h.le; simp; split <;> omega
  · rw [hsz, nodup_snoc, ← h.eq]
    have := h.le
    by_cases hx : x ∈ l
    · rw [(memB_true x l).2 hx]; simp [hx]; omega
    · rw [memB_false x l hx]; simp [hx]
/-- as Rowed, with what the other cells look like -/
def Shaped (P : Nat → Value → Prop) (w : World) (v : Value) (size : Nat) (l : List ByteArray) : Prop := ∃ a cap, v = .slice a l.length cap ∧ (l = [] ∨ ∃ g, a = some ⟨g, 0, none⟩ ∧ ∀ (j : Nat) (x : ByteArray), l[j]? = some x → w.cell? ⟨g, j * size, none⟩ = some (.string x) ∧ ∀ k, 0 < k → k < size → ∃ u, w.cell? ⟨g, j * size + k, none⟩ = some u ∧ P k u)
theorem Shaped.below {P : Nat → Value → Prop} {w w' : World} {v : Value} {size : Nat} {l : List ByteArray} (h : Shaped P w v size l) (hb : Below w.heap.size w w') : Shaped P w' v size l := by
  obtain ⟨a, cap, h1, h3⟩ := h
  refine ⟨a, cap, h1, ?_⟩
  rcases h3 with h3 | ⟨g, h3, h4⟩
  · exact Or.inl h3
  · refine Or.inr ⟨g, h3, fun j x hj => ?_⟩
    obtain ⟨c0, cs⟩ := h4 j x hj
    exact ⟨cell_below hb c0, fun k h1 h2 => by obtain ⟨u, hu, hp⟩ := cs k h1 h2; exact ⟨u, cell_below hb hu, hp⟩⟩
theorem RowG.shaped {β : Type} {w : World} {B e size : Nat} {v : Value} {flat : β → List Value} {ok : World → β → Prop} {L : List β} (P : Nat → Value → Prop) (h : RowG w B e size v flat ok L) (nmOf : β → ByteArray) (hf : ∀ x, (flat x).length = size) (h0 : ∀ x, (flat x)[0]? = some (.string (nmOf x))) (hP : ∀ x ∈ L, ∀ k u, 0 < k → (flat x)[k]? = some u → P k u) : Shaped P w v size (L.map nmOf) := by
  obtain ⟨a, cap, hv⟩ := own_slice h.own
  refine ⟨a, cap, by simpa using hv, ?_⟩
  cases hL : L with
  | nil => left; rfl
  | cons y l =>
    right
    obtain ⟨g, cap', hv', _⟩ := h.cell hf 0 y (by rw [hL]; rfl)
    rw [hv] at hv'
    cases hv'
    refine ⟨g, rfl, fun j x hx => ?_⟩
    rw [← hL, List.getElem?_map] at hx
    cases hz : L[j]? with
    | none => rw [hz] at hx; cases hx
    | some z =>
      rw [hz] at hx; cases hx
      obtain ⟨g2, cap2, hv2, hc⟩ := h.cell hf j z hz
      rw [hv] at hv2
      cases hv2
      refine ⟨by have := hc 0 _ (h0 z); simpa using this, fun k hk0 hk => ?_⟩
      have : k < (flat z).length := by rw [hf]; exact hk
      exact ⟨_, hc k _ (List.getElem?_eq_getElem this), hP z (List.mem_of_getElem? hz) k _ hk0 (List.getElem?_eq_getElem this)⟩
def shR (_ : Nat) (u : Value) : Prop := ∃ a n c, u = .slice a n c
def shN (_ : Nat) (_ : Value) : Prop := True
def shF (k : Nat) (u : Value) : Prop := (k < 5 → ∃ s, u = .string s) ∧ (k = 5 → ∃ q, u = .pointer q)
abbrev OwnM (w : World) (M n : Nat) (D : DataW Unit) : Prop := w.ownsMap Tryz.prog 9 (plainElem Tryz.prog 3) M n D
theorem methNamed (n : ByteArray) (W : World) : Sem.run Tryz.prog (method 416 152 (.agg #[.string n]) "veil/schemas.called") W = .ok (236, .agg #[.string n]) W := by kernel_rfl

set_option maxHeartbeats 2000000 in
set_option maxRecDepth 100000 in
theorem placesRole_any (w : World) (v : Value) (l : List ByteArray) (h : Shaped shR w v 2 l) (hl : l.length ≤ 100000) (hsz : ∀ x ∈ l, x.size ≤ 4000) :
    Calls Tryz.prog 80 #[v] w fun e w' => ∃ M D, e = .returned (.map (some M)) ∧ w.heap.size ≤ M ∧ OwnM w' M l.length D ∧ PM l D ∧ Below w.heap.size w w' := by
  have hmm := mm105
  have H0 := hide h
  have HSZ := hide hsz
  obtain ⟨a, cap, rfl, _⟩ := h
  clear hsz
  go_enter Tryz.func80, Tryz.ntmps80
  go_wp2_with fail
  go_loopg [4, 5, 11] l.length (fun m v4 v5 v11 wr => ∃ k : Nat, v11 = .int .i64 k ∧ k ≤ l.length ∧ l.length - k ≤ m ∧ ∃ D, OwnM wr w.heap.size k D ∧ PM (l.take k) D ∧ Below w.heap.size w wr)
  case atStart => exact ⟨0, rfl, Nat.zero_le _, by omega, .map [], World.ownsMap_made _ _ _ _, PM.nil, (Below.refl _ _).alloc (Nat.le_refl _) _⟩
  case round =>
    obtain ⟨k, rfl, hk, hm, D, hown, hpm, hb⟩ := hrel
    have HPM := hide hpm
    clear hpm
    by_cases hlt : k < l.length
    · obtain ⟨a', cap', e1, h3⟩ := H0.out.below hb
      cases e1
      obtain ⟨g, ha, h4⟩ : ∃ g, a = some ⟨g, 0, none⟩ ∧ ∀ (j : Nat) (x : ByteArray), l[j]? = some x → wr.cell? ⟨g, j * 2, none⟩ = some (.string x) ∧ ∀ k, 0 < k → k < 2 → ∃ u, wr.cell? ⟨g, j * 2 + k, none⟩ = some u ∧ shR k u := by
        rcases h3 with e | e
        · rw [e] at hlt; simp at hlt
        · exact e
      subst ha
      have hx := List.getElem?_eq_getElem hlt
      obtain ⟨hcell, hrest⟩ := h4 k _ hx
      obtain ⟨u1, hu1, hp1⟩ := hrest 1 (by decide) (by decide)
      obtain ⟨ra1, rn1, rc1, rfl⟩ := hp1
      have hky := HSZ.out _ (List.mem_of_getElem? hx)
      have HX := hide hx
      clear h4 hx hrest h3
      generalize l[k] = y at *
      have hkey := keyOf_name y hky
      have hmeth := fun W => methRole y (.slice ra1 rn1 rc1) W
      have hcl := called_any (wr.alloc (.cells #[.string y, .slice ra1 rn1 rc1] 154)) y
      have hbs := hb.size
      have hwf : (Lit.int .i64 (k : Int)).wf = true := WalkArith.wf_i64 (by omega)
      have HOWN := hide hown
      clear hown
      go_wp2_with fail
      refine hcl.mono ?_
      clear hcl
      rintro e w1 ⟨rfl, hb1⟩
      have hown1 : OwnM w1 w.heap.size k D := World.ownsMap.kept (HOWN.out.alloc _) ⟨hb1.os, hb1.tape, hb1.output, hb1.size, fun i hi _ => hb1.block i hi⟩ (by simp : some w.heap.size ≠ none)
      have hbb : Below w.heap.size w w1 := (hb.alloc hb.size _).trans (hb1.mono (by simp; omega))
      clear hb1
      go_wp2_with (first | (at_mapUpdate; refine wpList_mapUpdate_own _ rfl _ _ _ 72 rfl 9 3 keyLaw Tryz.underlying72 _ w.heap.size k D rfl hown1 (by unfold maxLen; omega) _ _ _ rfl rfl hkey _ [] (plainElem_int Tryz.underlying3 hwf) ?_; intro w2 hown2 hgrow2) | go_in)
      have hb2 : Below w.heap.size w w2 := hbb.grown hgrow2 hbb.size (fun j hj => by cases hj; exact Nat.le_refl _)
      have hpm2 : PM (l.take (k + 1)) (D.put (kl y) (.lit (.int .i64 k))) := by
        have := HPM.out.snoc y
        rw [List.length_take, Nat.min_eq_left hk] at this
        rw [List.take_add_one, HX.out]; exact this
      have HO2 := hide hown2
      have HP2 := hide hpm2
      clear hown1 hgrow2 hbb hown2 hpm2
      go_wp2_with fail
      go_roundg (l.length - (k + 1))
      case measure => omega
      case rel => exact ⟨k + 1, by go_num, by omega, Nat.le_refl _, _, HO2.out, HP2.out, hb2⟩
    · go_wp2_with fail
      go_ret
      have hke : k = l.length := by omega
      subst hke
      exact ⟨_, D, rfl, Nat.le_refl _, hown, by have := HPM.out; rw [List.take_of_length_le (Nat.le_refl _)] at this; exact this, hb⟩

set_option maxHeartbeats 2000000 in
set_option maxRecDepth 100000 in
theorem placesNamed_any (w : World) (v : Value) (l : List ByteArray) (h : Shaped shN w v 1 l) (hl : l.length ≤ 100000) (hsz : ∀ x ∈ l, x.size ≤ 4000) :
    Calls Tryz.prog 136 #[v] w fun e w' => ∃ M D, e = .returned (.map (some M)) ∧ w.heap.size ≤ M ∧ OwnM w' M l.length D ∧ PM l D ∧ Below w.heap.size w w' := by
  have hmm := mm105
  have H0 := hide h
  have HSZ := hide hsz
  obtain ⟨a, cap, rfl, _⟩ := h
  clear hsz
  go_enter Tryz.func136, Tryz.ntmps136
  go_wp2_with fail
  go_loopg [4, 5, 11] l.length (fun m v4 v5 v11 wr => ∃ k : Nat, v11 = .int .i64 k ∧ k ≤ l.length ∧ l.length - k ≤ m ∧ ∃ D, OwnM wr w.heap.size k D ∧ PM (l.take k) D ∧ Below w.heap.size w wr)
  case atStart => exact ⟨0, rfl, Nat.zero_le _, by omega, .map [], World.ownsMap_made _ _ _ _, PM.nil, (Below.refl _ _).alloc (Nat.le_refl _) _⟩
  case round =>
    obtain ⟨k, rfl, hk, hm, D, hown, hpm, hb⟩ := hrel
    have HPM := hide hpm
    clear hpm
    by_cases hlt : k < l.length
    · obtain ⟨a', cap', e1, h3⟩ := H0.out.below hb
      cases e1
      obtain ⟨g, ha, h4⟩ : ∃ g, a = some ⟨g, 0, none⟩ ∧ ∀ (j : Nat) (x : ByteArray), l[j]? = some x → wr.cell? ⟨g, j * 1, none⟩ = some (.string x) ∧ ∀ k, 0 < k → k < 1 → ∃ u, wr.cell? ⟨g, j * 1 + k, none⟩ = some u ∧ shN k u := by
        rcases h3 with e | e
        · rw [e] at hlt; simp at hlt
        · exact e
      subst ha
      have hx := List.getElem?_eq_getElem hlt
      obtain ⟨hcell, hrest⟩ := h4 k _ hx
      simp only [Nat.mul_one] at hcell
      have hky := HSZ.out _ (List.mem_of_getElem? hx)
      have HX := hide hx
      clear h4 hx hrest h3
      generalize l[k] = y at *
      have hkey := keyOf_name y hky
      have hmeth := fun W => methNamed y  W
      have hcl := called_any (wr.alloc (.cells #[.string y] 152)) y
      have hbs := hb.size
      have hwf : (Lit.int .i64 (k : Int)).wf = true := WalkArith.wf_i64 (by omega)
      have HOWN := hide hown
      clear hown
      go_wp2_with fail
      refine hcl.mono ?_
      clear hcl
      rintro e w1 ⟨rfl, hb1⟩
      have hown1 : OwnM w1 w.heap.size k D := World.ownsMap.kept (HOWN.out.alloc _) ⟨hb1.os, hb1.tape, hb1.output, hb1.size, fun i hi _ => hb1.block i hi⟩ (by simp : some w.heap.size ≠ none)
      have hbb : Below w.heap.size w w1 := (hb.alloc hb.size _).trans (hb1.mono (by simp; omega))
      clear hb1
      go_wp2_with (first | (at_mapUpdate; refine wpList_mapUpdate_own _ rfl _ _ _ 72 rfl 9 3 keyLaw Tryz.underlying72 _ w.heap.size k D rfl hown1 (by unfold maxLen; omega) _ _ _ rfl rfl hkey _ [] (plainElem_int Tryz.underlying3 hwf) ?_; intro w2 hown2 hgrow2) | go_in)
      have hb2 : Below w.heap.size w w2 := hbb.grown hgrow2 hbb.size (fun j hj => by cases hj; exact Nat.le_refl _)
      have hpm2 : PM (l.take (k + 1)) (D.put (kl y) (.lit (.int .i64 k))) := by
        have := HPM.out.snoc y
        rw [List.length_take, Nat.min_eq_left hk] at this
        rw [List.take_add_one, HX.out]; exact this
      have HO2 := hide hown2
      have HP2 := hide hpm2
      clear hown1 hgrow2 hbb hown2 hpm2
      go_wp2_with fail
      go_roundg (l.length - (k + 1))
      case measure => omega
      case rel => exact ⟨k + 1, by go_num, by omega, Nat.le_refl _, _, HO2.out, HP2.out, hb2⟩
    · go_wp2_with fail
      go_ret
      have hke : k = l.length := by omega
      subst hke
      exact ⟨_, D, rfl, Nat.le_refl _, hown, by have := HPM.out; rw [List.take_of_length_le (Nat.le_refl _)] at this; exact this, hb⟩

set_option maxHeartbeats 2000000 in
set_option maxRecDepth 100000 in
theorem placesField_any (w : World) (v : Value) (l : List ByteArray) (h : Shaped shF w v 6 l) (hl : l.length ≤ 100000) (hsz : ∀ x ∈ l, x.size ≤ 4000) :
    Calls Tryz.prog 173 #[v] w fun e w' => ∃ M D, e = .returned (.map (some M)) ∧ w.heap.size ≤ M ∧ OwnM w' M l.length D ∧ PM l D ∧ Below w.heap.size w w' := by
  have hmm := mm105
  have H0 := hide h
  have HSZ := hide hsz
  obtain ⟨a, cap, rfl, _⟩ := h
  clear hsz
  go_enter Tryz.func173, Tryz.ntmps173
  go_wp2_with fail
  go_loopg [4, 5, 11] l.length (fun m v4 v5 v11 wr => ∃ k : Nat, v11 = .int .i64 k ∧ k ≤ l.length ∧ l.length - k ≤ m ∧ ∃ D, OwnM wr w.heap.size k D ∧ PM (l.take k) D ∧ Below w.heap.size w wr)
  case atStart => exact ⟨0, rfl, Nat.zero_le _, by omega, .map [], World.ownsMap_made _ _ _ _, PM.nil, (Below.refl _ _).alloc (Nat.le_refl _) _⟩
  case round =>
    obtain ⟨k, rfl, hk, hm, D, hown, hpm, hb⟩ := hrel
    have HPM := hide hpm
    clear hpm
    by_cases hlt : k < l.length
    · obtain ⟨a', cap', e1, h3⟩ := H0.out.below hb
      cases e1
      obtain ⟨g, ha, h4⟩ : ∃ g, a = some ⟨g, 0, none⟩ ∧ ∀ (j : Nat) (x : ByteArray), l[j]? = some x → wr.cell? ⟨g, j * 6, none⟩ = some (.string x) ∧ ∀ k, 0 < k → k < 6 → ∃ u, wr.cell? ⟨g, j * 6 + k, none⟩ = some u ∧ shF k u := by
        rcases h3 with e | e
        · rw [e] at hlt; simp at hlt
        · exact e
      subst ha
      have hx := List.getElem?_eq_getElem hlt
      obtain ⟨hcell, hrest⟩ := h4 k _ hx
      obtain ⟨u1, hu1, hp1⟩ := hrest 1 (by decide) (by decide)
      obtain ⟨fs1, rfl⟩ := hp1.1 (by decide)
      obtain ⟨u2, hu2, hp2⟩ := hrest 2 (by decide) (by decide)
      obtain ⟨fs2, rfl⟩ := hp2.1 (by decide)
      obtain ⟨u3, hu3, hp3⟩ := hrest 3 (by decide) (by decide)
      obtain ⟨fs3, rfl⟩ := hp3.1 (by decide)
      obtain ⟨u4, hu4, hp4⟩ := hrest 4 (by decide) (by decide)
      obtain ⟨fs4, rfl⟩ := hp4.1 (by decide)
      obtain ⟨u5, hu5, hp5⟩ := hrest 5 (by decide) (by decide)
      obtain ⟨fq5, rfl⟩ := hp5.2 rfl
      clear hp1 hp2 hp3 hp4 hp5
      have hky := HSZ.out _ (List.mem_of_getElem? hx)
      have HX := hide hx
      clear h4 hx hrest h3
      generalize l[k] = y at *
      have hkey := keyOf_name y hky
      have hmeth := fun W => methField y (.string fs1) (.string fs2) (.string fs3) (.string fs4) (.pointer fq5) W
      have hcl := called_any (wr.alloc (.cells #[.string y, .string fs1, .string fs2, .string fs3, .string fs4, .pointer fq5] 180)) y
      have hbs := hb.size
      have hwf : (Lit.int .i64 (k : Int)).wf = true := WalkArith.wf_i64 (by omega)
      have HOWN := hide hown
      clear hown
      go_wp2_with fail
      refine hcl.mono ?_
      clear hcl
      rintro e w1 ⟨rfl, hb1⟩
      have hown1 : OwnM w1 w.heap.size k D := World.ownsMap.kept (HOWN.out.alloc _) ⟨hb1.os, hb1.tape, hb1.output, hb1.size, fun i hi _ => hb1.block i hi⟩ (by simp : some w.heap.size ≠ none)
      have hbb : Below w.heap.size w w1 := (hb.alloc hb.size _).trans (hb1.mono (by simp; omega))
      clear hb1
      go_wp2_with (first | (at_mapUpdate; refine wpList_mapUpdate_own _ rfl _ _ _ 72 rfl 9 3 keyLaw Tryz.underlying72 _ w.heap.size k D rfl hown1 (by unfold maxLen; omega) _ _ _ rfl rfl hkey _ [] (plainElem_int Tryz.underlying3 hwf) ?_; intro w2 hown2 hgrow2) | go_in)
      have hb2 : Below w.heap.size w w2 := hbb.grown hgrow2 hbb.size (fun j hj => by cases hj; exact Nat.le_refl _)
      have hpm2 : PM (l.take (k + 1)) (D.put (kl y) (.lit (.int .i64 k))) := by
        have := HPM.out.snoc y
        rw [List.length_take, Nat.min_eq_left hk] at this
        rw [List.take_add_one, HX.out]; exact this
      have HO2 := hide hown2
      have HP2 := hide hpm2
      clear hown1 hgrow2 hbb hown2 hpm2
      go_wp2_with fail
      go_roundg (l.length - (k + 1))
      case measure => omega
      case rel => exact ⟨k + 1, by go_num, by omega, Nat.le_refl _, _, HO2.out, HP2.out, hb2⟩
    · go_wp2_with fail
      go_ret
      have hke : k = l.length := by omega
      subst hke
      exact ⟨_, D, rfl, Nat.le_refl _, hown, by have := HPM.out; rw [List.take_of_length_le (Nat.le_refl _)] at this; exact this, hb⟩

set_option maxHeartbeats 1000000 in
set_option maxRecDepth 100000 in
theorem distinctNamed_any (w : World) (v : Value) (l : List ByteArray) (h : Shaped shN w v 1 l) (hl : l.length ≤ 100000) (hsz : ∀ x ∈ l, x.size ≤ 4000) :
    Calls Tryz.prog 100 #[v] w fun e w' => e = .returned (.bool (nodupB l)) ∧ Below w.heap.size w w' := by
  have hc := placesNamed_any w v l h hl hsz
  obtain ⟨a, cap, rfl, _⟩ := h
  go_enter Tryz.func100, Tryz.ntmps100
  go_wp2_with fail
  refine hc.mono ?_
  clear hc
  rintro e w1 ⟨M, D, rfl, hM, hown, hpm, hb⟩
  have HQ := hide (show nodupB l = decide (Maps.size D = l.length) from by rw [Bool.eq_iff_iff, nodupB_iff, ← hpm.eq]; simp)
  have hle := hpm.le
  generalize hsd : Maps.size D = sd at *
  clear hpm
  by_cases hq : sd = l.length
  · have t1 : ((sd : Int) == (l.length : Int)) = true := by simp; omega
    go_wp2_with (first | (at_len; refine wpList_len_own _ rfl _ 72 rfl 9 3 Tryz.underlying72 _ M _ D rfl hown ?_; rw [hsd]) | go_in)
    go_ret
    exact ⟨ret_bool (by rw [HQ.out]; simp [hq]), hb⟩
  · have t1 : ((sd : Int) == (l.length : Int)) = false := by simp; omega
    go_wp2_with (first | (at_len; refine wpList_len_own _ rfl _ 72 rfl 9 3 Tryz.underlying72 _ M _ D rfl hown ?_; rw [hsd]) | go_in)
    go_ret
    exact ⟨ret_bool (by rw [HQ.out]; simp [hq]), hb⟩

set_option maxHeartbeats 1000000 in
set_option maxRecDepth 100000 in
theorem distinctField_any (w : World) (v : Value) (l : List ByteArray) (h : Shaped shF w v 6 l) (hl : l.length ≤ 100000) (hsz : ∀ x ∈ l, x.size ≤ 4000) :
    Calls Tryz.prog 138 #[v] w fun e w' => e = .returned (.bool (nodupB l)) ∧ Below w.heap.size w w' := by
  have hc := placesField_any w v l h hl hsz
  obtain ⟨a, cap, rfl, _⟩ := h
  go_enter Tryz.func138, Tryz.ntmps138
  go_wp2_with fail
  refine hc.mono ?_
  clear hc
  rintro e w1 ⟨M, D, rfl, hM, hown, hpm, hb⟩
  have HQ := hide (show nodupB l = decide (Maps.size D = l.length) from by rw [Bool.eq_iff_iff, nodupB_iff, ← hpm.eq]; simp)
  have hle := hpm.le
  generalize hsd : Maps.size D = sd at *
  clear hpm
  by_cases hq : sd = l.length
  · have t1 : ((sd : Int) == (l.length : Int)) = true := by simp; omega
    go_wp2_with (first | (at_len; refine wpList_len_own _ rfl _ 72 rfl 9 3 Tryz.underlying72 _ M _ D rfl hown ?_; rw [hsd]) | go_in)
    go_ret
    exact ⟨ret_bool (by rw [HQ.out]; simp [hq]), hb⟩
  · have t1 : ((sd : Int) == (l.length : Int)) = false := by simp; omega
    go_wp2_with (first | (at_len; refine wpList_len_own _ rfl _ 72 rfl 9 3 Tryz.underlying72 _ M _ D rfl hown ?_; rw [hsd]) | go_in)
    go_ret
    exact ⟨ret_bool (by rw [HQ.out]; simp [hq]), hb⟩
end Go.Proofs.YtpggfgjongkihaaGreat
namespace Go.Proofs.YtpggfgjongkihaaGreat
open Go.RowKit
open Go.Maps
open Go.ChangeMaps
/-- a map of what was seen once -/
structure CM (l : List ByteArray) (D : DataW Unit) : Prop where
  tidy : Tidy D
  hasP : ∀ x, Maps.has D (kl x) = memB x l
  one : ∀ x, x ∈ l → ∀ z, D.atKey (kl x) z = .lit (.int .i64 1)
theorem CM.nil : CM [] (.map []) := ⟨tidy_empty, fun x => by simp [Maps.has, memB], fun x hx => by simp at hx⟩
theorem CM.snoc {l : List ByteArray} {D : DataW Unit} (h : CM l D) (x : ByteArray) : CM (l ++ [x]) (D.put (kl x) (.lit (.int .i64 1))) := by
  refine ⟨h.tidy.put (kl_key x) _, fun y => ?_, fun y hy => ?_⟩
  · rw [memB_snoc]
    by_cases e : y = x
    · subst e; rw [has_put_same h.tidy.isMap (kl_key y)]; simp
    · rw [has_put_other (fun h' => e (kl_inj h')), h.hasP y, decide_eq_false (fun e' => e e'.symm)]; simp
  · by_cases e : y = x
    · subst e; intro z; exact atKey_put_same h.tidy.isMap (kl_key y) _ z
    · have hy' : y ∈ l := by simpa [e] using hy
      intro z; rw [atKey_put_other (fun h' => e (kl_inj h'))]; exact h.one y hy' z
def allK (kind : ByteArray → Nat) (K : Nat) (l : List ByteArray) : Bool := nodupB l && l.all fun x => decide (kind x = K)
theorem nodupB_take (l : List ByteArray) (k : Nat) (y : ByteArray) (hy : l[k]? = some y) (h : memB y (l.take k) = true) : nodupB l = false := by
  rw [Bool.eq_false_iff]
  intro hn
  rw [nodupB_iff] at hn
  rw [memB_true] at h
  have e : l = l.take k ++ y :: l.drop (k + 1) := by
    have hk := (List.getElem?_eq_some_iff.1 hy)
    obtain ⟨h1, h2⟩ := hk
    rw [← h2, ← List.drop_eq_getElem_cons h1, List.take_append_drop]
  rw [e, List.nodup_append] at hn
  exact hn.2.2 y h y (by simp) rfl
set_option maxHeartbeats 2000000 in
set_option maxRecDepth 100000 in
theorem allOfKind_any (w : World) (S : Nat) (vR vO vI vU vN : Value) (LR : List (RRole × Value)) (LO : List (PObj × Value × Value × Value)) (LI : List (PIf × Value)) (LU : List (PUn × Value)) (names : List ByteArray) (v : Value) (l : List ByteArray) (K : Nat) (h : SV w S vR vO vI vU vN LR LO LI LU names) (hv : StrsAt w v l) (hl : l.length ≤ 100000) (hsz : ∀ x ∈ l, x.size ≤ 4000) :
    Calls Tryz.prog 104 #[.pointer (some ⟨S, 0, none⟩), v, .int .i64 K] w fun e w' => e = .returned (.bool (allK (kindN (LO.map oN) (LI.map iN) (LU.map uN)) K l)) ∧ Below w.heap.size w w' := by
  have hmm := mm105
  have H0 := hide h
  have HV := hide hv
  have HSZ := hide hsz
  obtain ⟨a, cap, rfl, _⟩ := hv
  have HQ := hide (show allK (kindN (LO.map oN) (LI.map iN) (LU.map uN)) K l = (nodupB l && l.all fun x => decide ((kindN (LO.map oN) (LI.map iN) (LU.map uN)) x = K)) from rfl)
  generalize allK (kindN (LO.map oN) (LI.map iN) (LU.map uN)) K l = FF at *
  clear h hsz
  go_enter Tryz.func104, Tryz.ntmps104
  go_wp2_with fail
  go_loopg [9, 15] l.length (fun m v9 v15 wr => ∃ k : Nat, v15 = .int .i64 k ∧ k ≤ l.length ∧ l.length - k ≤ m ∧ (∃ D, OwnM wr w.heap.size k D ∧ CM (l.take k) D) ∧ Below w.heap.size w wr ∧ (l.take k).Nodup ∧ ∀ x ∈ l.take k, (kindN (LO.map oN) (LI.map iN) (LU.map uN)) x = K)
  case atStart => exact ⟨0, rfl, Nat.zero_le _, by omega, ⟨.map [], World.ownsMap_made _ _ _ _, CM.nil⟩, (Below.refl _ _).alloc (Nat.le_refl _) _, by simp, by simp⟩
  case round =>
    obtain ⟨k, rfl, hk, hm, ⟨D, hown, hcm⟩, hb, hnd, hall⟩ := hrel
    have HCM := hide hcm
    have HND := hide hnd
    have HALL := hide hall
    clear hcm hnd hall
    by_cases hlt : k < l.length
    · obtain ⟨a', cap', e1, _, h3⟩ := HV.out.below hb
      cases e1
      obtain ⟨g, off, ha, h4⟩ : ∃ g off, a = some ⟨g, off, none⟩ ∧ ∀ (j : Nat) (x : ByteArray), l[j]? = some x → wr.cell? ⟨g, off + j, none⟩ = some (.string x) := by
        rcases h3 with e | e
        · rw [e] at hlt; simp at hlt
        · exact e
      subst ha
      have hx := List.getElem?_eq_getElem hlt
      have hcell := h4 k _ hx
      have hky := HSZ.out _ (List.mem_of_getElem? hx)
      have HX := hide hx
      clear h4 hx h3
      generalize l[k] = y at *
      have hkey := keyOf_name y hky
      obtain ⟨c, hrun, hat, _⟩ := hown.lookup_int keyLaw Tryz.underlying72 Tryz.underlying3 (zeroE _) hkey
      have hbs := hb.size
      cases hmem : memB y (l.take k)
      · have hc0 : c = 0 := by
          have := atKey_of_not_has (D := D) (k := kl y) (by rw [HCM.out.hasP]; exact hmem) (.lit (.int .i64 0))
          rw [this] at hat
          simp only [DataW.lit.injEq, Lit.int.injEq, true_and] at hat
          exact hat.symm
        subst hc0
        clear hat
        have HK := hide (fun w' hb' => kindP_any w' S vR vO vI vU vN LR LO LI LU names y (H0.out.below hb'))
        have hny : ¬ y ∈ l.take k := fun hin => by rw [(memB_true y _).2 hin] at hmem; cases hmem
        have HNY := hide hny
        clear hny hmem
        have hwf1 : (Lit.int .i64 1).wf = true := by decide
        by_cases hkk : (kindN (LO.map oN) (LI.map iN) (LU.map uN)) y = K
        · have t1 : (((kindN (LO.map oN) (LI.map iN) (LU.map uN)) y : Int) == (K : Int)) = true := by simp; omega
          have HKK := hide (show ∀ z, z = y → (kindN (LO.map oN) (LI.map iN) (LU.map uN)) z = K from fun z hz => by rw [hz]; exact hkk)
          clear hkk
          generalize (kindN (LO.map oN) (LI.map iN) (LU.map uN)) y = kk at *
          go_wp2_with (at_mapUpdate; refine wpList_mapUpdate_own _ rfl _ _ _ 72 rfl 9 3 keyLaw Tryz.underlying72 _ w.heap.size k D rfl hown (by unfold maxLen; omega) _ _ _ rfl rfl hkey _ [] (plainElem_int Tryz.underlying3 hwf1) ?_; intro w2 hown2 hgrow2; obtain ⟨c2, hrun2, hat2, _⟩ := hown2.lookup_int keyLaw Tryz.underlying72 Tryz.underlying3 (zeroE _) hkey; have hc2 : c2 = 1 := (by rw [atKey_put_same HCM.out.tidy.isMap (kl_key y)] at hat2; simp only [DataW.lit.injEq, Lit.int.injEq, true_and] at hat2; exact hat2.symm); subst hc2; clear hat2)
          have hb2 : Below w.heap.size w w2 := hb.grown hgrow2 hb.size (fun j hj => by cases hj; exact Nat.le_refl _)
          refine (HK.out w2 hb2).mono ?_
          rintro e w3 ⟨rfl, hb3⟩
          have hown3 : OwnM w3 w.heap.size (k + 1) _ := World.ownsMap.kept hown2 ⟨hb3.os, hb3.tape, hb3.output, hb3.size, fun i hi _ => hb3.block i hi⟩ (by simp : some w.heap.size ≠ none)
          have hb23 : Below w.heap.size w w3 := hb2.trans (hb3.mono hb2.size)
          have HO3 := hide hown3
          clear hown2 hgrow2 hb2 hb3 hown3 hrun2 HK
          go_wp2_with fail
          go_roundg (l.length - (k + 1))
          case measure => omega
          case rel => exact ⟨k + 1, by go_num, by omega, Nat.le_refl _, ⟨_, HO3.out, by rw [List.take_add_one, HX.out]; exact HCM.out.snoc y⟩, hb23, by
              rw [List.take_add_one, HX.out]; exact (nodup_snoc _ y).2 ⟨HND.out, HNY.out⟩, by
              rw [List.take_add_one, HX.out]
              intro x hx
              rcases List.mem_append.1 hx with hx | hx
              · exact HALL.out x hx
              · exact HKK.out x (by simpa using hx)⟩
        · have t1 : (((kindN (LO.map oN) (LI.map iN) (LU.map uN)) y : Int) == (K : Int)) = false := by simp; omega
          have HE := hide (show FF = false from by
            rw [HQ.out, Bool.and_eq_false_iff]; right
            rw [Bool.eq_false_iff]
            intro hT
            rw [List.all_eq_true] at hT
            have := hT y (List.mem_of_getElem? HX.out)
            simp only [decide_eq_true_eq] at this
            exact hkk this)
          clear hkk HQ
          generalize (kindN (LO.map oN) (LI.map iN) (LU.map uN)) y = kk at *
          go_wp2_with (at_mapUpdate; refine wpList_mapUpdate_own _ rfl _ _ _ 72 rfl 9 3 keyLaw Tryz.underlying72 _ w.heap.size k D rfl hown (by unfold maxLen; omega) _ _ _ rfl rfl hkey _ [] (plainElem_int Tryz.underlying3 hwf1) ?_; intro w2 hown2 hgrow2; obtain ⟨c2, hrun2, hat2, _⟩ := hown2.lookup_int keyLaw Tryz.underlying72 Tryz.underlying3 (zeroE _) hkey; have hc2 : c2 = 1 := (by rw [atKey_put_same HCM.out.tidy.isMap (kl_key y)] at hat2; simp only [DataW.lit.injEq, Lit.int.injEq, true_and] at hat2; exact hat2.symm); subst hc2; clear hat2)
          have hb2 : Below w.heap.size w w2 := hb.grown hgrow2 hb.size (fun j hj => by cases hj; exact Nat.le_refl _)
          refine (HK.out w2 hb2).mono ?_
          rintro e w3 ⟨rfl, hb3⟩
          have hb23 : Below w.heap.size w w3 := hb2.trans (hb3.mono hb2.size)
          clear hown2 hgrow2 hb2 hb3 hrun2 HK
          go_wp2_with fail
          go_ret
          exact ⟨ret_bool (by rw [HE.out]), hb23⟩
      · have hc1 : c = 1 := by
          have := HCM.out.one y ((memB_true y _).1 hmem) (.lit (.int .i64 0))
          rw [this] at hat
          simp only [DataW.lit.injEq, Lit.int.injEq, true_and] at hat
          exact hat.symm
        subst hc1
        have HE := hide (show FF = false from by rw [HQ.out, nodupB_take l k y HX.out hmem]; rfl)
        have hwf2 : (Lit.int .i64 2).wf = true := by decide
        clear hat hmem HQ
        go_wp2_with (at_mapUpdate; refine wpList_mapUpdate_own _ rfl _ _ _ 72 rfl 9 3 keyLaw Tryz.underlying72 _ w.heap.size k D rfl hown (by unfold maxLen; omega) _ _ _ rfl rfl hkey _ [] (plainElem_int Tryz.underlying3 hwf2) ?_; intro w2 hown2 hgrow2; obtain ⟨c2, hrun2, hat2, _⟩ := hown2.lookup_int keyLaw Tryz.underlying72 Tryz.underlying3 (zeroE _) hkey; have hc2 : c2 = 2 := (by rw [atKey_put_same HCM.out.tidy.isMap (kl_key y)] at hat2; simp only [DataW.lit.injEq, Lit.int.injEq, true_and] at hat2; exact hat2.symm); subst hc2; clear hat2)
        have hb2 : Below w.heap.size w w2 := hb.grown hgrow2 hb.size (fun j hj => by cases hj; exact Nat.le_refl _)
        go_ret
        exact ⟨ret_bool (by rw [HE.out]), hb2⟩
    · go_wp2_with fail
      go_ret
      have hke : l.take k = l := List.take_of_length_le (by omega)
      exact ⟨ret_bool (by
        rw [HQ.out]
        have h1 := HND.out
        have h2 := HALL.out
        rw [hke] at h1 h2
        rw [(nodupB_iff l).2 h1]
        simp only [Bool.true_and]
        symm
        rw [List.all_eq_true]
        intro x hx; simp [h2 x hx]), hb⟩
end Go.Proofs.YtpggfgjongkihaaGreat
namespace Go.Proofs.YtpggfgjongkihaaGreat
open Go.RowKit
def fldsB (roles : List ByteArray) (kind : ByteArray → Nat) (l : List PFld) : Bool := l.all (fldB roles kind) && nodupB (l.map PFld.name)
theorem PFlds.shaped {w : World} {B : Nat} {v : Value} {L : List (PFld × Value)} (h : RowG w B 180 6 v flF (okF B) L) : Shaped shF w v 6 (L.map fN) :=
  h.shaped shF fN (fun _ => rfl) (fun _ => rfl) (fun x hx k u hk hu => by
    obtain ⟨q, hq⟩ := (h.ok x hx).ptr
    have : flF x = [.string x.1.name, .string x.1.auth, .string x.1.hide_, .string x.1.arg, .string x.1.scalar, x.2] := rfl
    rw [this] at hu
    match k, hk, hu with
    | 1, _, hu => simp at hu; exact ⟨fun _ => ⟨_, hu.symm⟩, fun e => by omega⟩
    | 2, _, hu => simp at hu; exact ⟨fun _ => ⟨_, hu.symm⟩, fun e => by omega⟩
    | 3, _, hu => simp at hu; exact ⟨fun _ => ⟨_, hu.symm⟩, fun e => by omega⟩
    | 4, _, hu => simp at hu; exact ⟨fun _ => ⟨_, hu.symm⟩, fun e => by omega⟩
    | 5, _, hu => simp at hu; exact ⟨fun e => by omega, fun _ => ⟨_, by rw [← hu]; exact hq⟩⟩
    | k + 6, _, hu => simp at hu)
set_option maxHeartbeats 2000000 in
set_option maxRecDepth 100000 in
theorem fieldsRight_any (w : World) (S : Nat) (vR vO vI vU vN : Value) (LR : List (RRole × Value)) (LO : List (PObj × Value × Value × Value)) (LI : List (PIf × Value)) (LU : List (PUn × Value)) (names : List ByteArray) (v : Value) (B : Nat) (l : List PFld) (h : SV w S vR vO vI vU vN LR LO LI LU names) (hF : PFlds w B v l) (hl : l.length ≤ 100000) (hsz : ∀ f ∈ l, f.name.size ≤ 4000) :
    Calls Tryz.prog 101 #[.pointer (some ⟨S, 0, none⟩), v] w fun e w' => e = .returned (.bool (fldsB (LR.map rN) (kindN (LO.map oN) (LI.map iN) (LU.map uN)) l)) ∧ Below w.heap.size w w' := by
  obtain ⟨L, hL, hrow⟩ := hF.row
  have hlen : L.length = l.length := by rw [← hL]; simp
  have H0 := hide h
  have HROW := hide hrow
  have HSZ := hide hsz
  have HL := hide hL
  have hLl : L.length ≤ 100000 := by omega
  obtain ⟨a, cap, rfl⟩ := own_slice hrow.own
  have HQ := hide (show fldsB (LR.map rN) (kindN (LO.map oN) (LI.map iN) (LU.map uN)) l = (l.all (fldB (LR.map rN) (kindN (LO.map oN) (LI.map iN) (LU.map uN))) && nodupB (l.map PFld.name)) from rfl)
  generalize fldsB (LR.map rN) (kindN (LO.map oN) (LI.map iN) (LU.map uN)) l = FF at *
  clear h hF hsz hrow hL hlen
  go_enter Tryz.func101, Tryz.ntmps101
  go_wp2_with fail
  go_loopg [5, 8] L.length (fun m v5 v8 wr => ∃ k : Nat, v8 = .int .i64 k ∧ k ≤ L.length ∧ L.length - k ≤ m ∧ Below w.heap.size w wr ∧ (L.take k).all (fun x => fldB (LR.map rN) (kindN (LO.map oN) (LI.map iN) (LU.map uN)) x.1) = true)
  case atStart => exact ⟨0, rfl, Nat.zero_le _, by omega, Below.refl _ _, by simp⟩
  case round =>
    obtain ⟨k, rfl, hk, hm, hb, hall⟩ := hrel
    have HALL := hide hall
    clear hall
    by_cases hlt : k < L.length
    · have hx := List.getElem?_eq_getElem hlt
      obtain ⟨g, cap', hv, hfa, hta⟩ := HROW.out.fldAt k _ hx
      cases hv
      have hc := fieldRight_any wr S _ _ _ _ _ LR LO LI LU names g (k * 6) B _ _ (H0.out.below hb) (hfa.below hb) (hta.stays (Stay.of_below hb))
      have HX := hide hx
      clear hx hfa hta
      generalize L[k] = y at *
      have HXJ := hide (show (L.take (k + 1)).all (fun x => fldB (LR.map rN) (kindN (LO.map oN) (LI.map iN) (LU.map uN)) x.1) = fldB (LR.map rN) (kindN (LO.map oN) (LI.map iN) (LU.map uN)) y.1 from by
        rw [List.take_add_one, HX.out, List.all_append, HALL.out]; simp)
      cases hq : fldB (LR.map rN) (kindN (LO.map oN) (LI.map iN) (LU.map uN)) y.1
      · rw [hq] at hc
        have HE := hide (show FF = false from by
          rw [HQ.out, Bool.and_eq_false_iff]; left
          rw [Bool.eq_false_iff]
          intro hT
          rw [List.all_eq_true] at hT
          have := hT y.1 (by rw [← HL.out]; exact List.mem_map_of_mem (List.mem_of_getElem? HX.out))
          rw [hq] at this; cases this)
        clear hq HXJ
        go_wp2_with fail
        refine hc.mono ?_
        clear hc
        rintro e w1 ⟨rfl, hb1⟩
        have hbb := hb.trans (hb1.mono hb.size)
        clear hb1
        go_wp2_with fail
        go_ret
        exact ⟨ret_bool (by rw [HE.out]), hbb⟩
      · rw [hq] at hc HXJ
        clear hq
        go_wp2_with fail
        refine hc.mono ?_
        clear hc
        rintro e w1 ⟨rfl, hb1⟩
        have hbb := hb.trans (hb1.mono hb.size)
        clear hb1
        go_wp2_with fail
        go_roundg (L.length - (k + 1))
        case measure => omega
        case rel => exact ⟨k + 1, by go_num, by omega, Nat.le_refl _, hbb, HXJ.out⟩
    · have hc := distinctField_any wr _ (L.map fN) ((PFlds.shaped HROW.out).below hb) (by simpa using hLl) (by
        intro x hx
        rw [rowF_names L l HL.out] at hx
        obtain ⟨f, hf, rfl⟩ := List.mem_map.1 hx
        exact HSZ.out f hf)
      have HE := hide (show FF = nodupB (L.map fN) from by
        rw [HQ.out, rowF_names L l HL.out]
        have : l.all (fldB (LR.map rN) (kindN (LO.map oN) (LI.map iN) (LU.map uN))) = true := by
          have h1 := HALL.out
          rw [List.take_of_length_le (by omega)] at h1
          rw [← HL.out, List.all_map]; exact h1
        rw [this]; rfl)
      generalize nodupB (L.map fN) = GG at *
      go_wp2_with fail
      refine hc.mono ?_
      clear hc
      rintro e w1 ⟨rfl, hb1⟩
      go_wp2_with fail
      go_ret
      exact ⟨ret_bool (by rw [HE.out]), hb.trans (hb1.mono hb.size)⟩
set_option maxHeartbeats 2000000 in
set_option maxRecDepth 100000 in
theorem interfacesRight_any (w : World) (S : Nat) (vR vO vI vU vN : Value) (LR : List (RRole × Value)) (LO : List (PObj × Value × Value × Value)) (LI : List (PIf × Value)) (LU : List (PUn × Value)) (names : List ByteArray) (h : SV w S vR vO vI vU vN LR LO LI LU names) (hsz : ∀ x ∈ LI, ∀ f ∈ x.1.fields, f.name.size ≤ 4000) :
    Calls Tryz.prog 59 #[.pointer (some ⟨S, 0, none⟩)] w fun e w' => e = .returned (.bool (LI.all fun x => fldsB (LR.map rN) (kindN (LO.map oN) (LI.map iN) (LU.map uN)) x.1.fields)) ∧ Below w.heap.size w w' := by
  have H0 := hide h
  have HSZ := hide hsz
  have hli := h.li
  obtain ⟨a, cap, hv⟩ := own_slice h.i.own
  subst hv
  have c0 : w.cell? ⟨S, 2, none⟩ = some (.slice a LI.length cap) := cell_of_block h.sc 2
  generalize hFF : (LI.all fun x => fldsB (LR.map rN) (kindN (LO.map oN) (LI.map iN) (LU.map uN)) x.1.fields) = FF at *
  have HFF := hide hFF
  clear h hsz hFF
  go_enter Tryz.func59, Tryz.ntmps59
  go_wp2_with fail
  go_loopg [4, 10] LI.length (fun m v4 v10 wr => ∃ k : Nat, v10 = .int .i64 k ∧ k ≤ LI.length ∧ LI.length - k ≤ m ∧ Below w.heap.size w wr ∧ ((LI.take k).all fun x => fldsB (LR.map rN) (kindN (LO.map oN) (LI.map iN) (LU.map uN)) x.1.fields) = true)
  case atStart => exact ⟨0, rfl, Nat.zero_le _, by omega, Below.refl _ _, by simp⟩
  case round =>
    obtain ⟨k, rfl, hk, hm, hb, hall⟩ := hrel
    have HALL := hide hall
    clear hall
    by_cases hlt : k < LI.length
    · have hx := List.getElem?_eq_getElem hlt
      have hsv := H0.out.below hb
      obtain ⟨g, cap', hv, hcc⟩ := hsv.i.cell (fun _ => rfl) k _ hx
      cases hv
      have hok := hsv.i.ok _ (List.mem_of_getElem? hx)
      have d0 : wr.cell? ⟨g, k * 2, none⟩ = some (.string LI[k].1.name) := by simpa using hcc 0 _ rfl
      have d1 : wr.cell? ⟨g, k * 2 + 1, none⟩ = some LI[k].2 := hcc 1 _ rfl
      have hsz := HSZ.out _ (List.mem_of_getElem? hx)
      have HX := hide hx
      clear hx hcc
      generalize LI[k] = y at *
      obtain ⟨⟨yn, yf⟩, yv⟩ := y
      obtain ⟨hfl, hyl⟩ := hok
      simp only [] at *
      obtain ⟨aY, cY, rfl⟩ := hfl.slice
      have hc := fieldsRight_any (wr.alloc (.cells #[.string yn, .slice aY yf.length cY] 197)) S _ _ _ _ _ LR LO LI LU names _ S yf (hsv.below ((Below.refl _ _).alloc (Nat.le_refl _) _)) (hfl.stays (Stay.alloc _) (Stay.alloc _)) (by omega) hsz
      clear hsv hfl
      have HXJ := hide (show ((LI.take (k + 1)).all fun x => fldsB (LR.map rN) (kindN (LO.map oN) (LI.map iN) (LU.map uN)) x.1.fields) = fldsB (LR.map rN) (kindN (LO.map oN) (LI.map iN) (LU.map uN)) yf from by
        rw [List.take_add_one, HX.out, List.all_append, HALL.out]; simp)
      cases hq : fldsB (LR.map rN) (kindN (LO.map oN) (LI.map iN) (LU.map uN)) yf
      · rw [hq] at hc
        have HE := hide (show FF = false from by
          rw [← HFF.out, Bool.eq_false_iff]
          intro hT
          rw [List.all_eq_true] at hT
          have := hT _ (List.mem_of_getElem? HX.out)
          simp only [] at this
          rw [hq] at this; cases this)
        clear hq HXJ
        go_wp2_with fail
        refine hc.mono ?_
        clear hc
        rintro e w1 ⟨rfl, hb1⟩
        have hbb : Below w.heap.size w w1 := (hb.alloc hb.size _).trans (hb1.mono (by have := hb.size; simp; omega))
        clear hb1
        go_wp2_with fail
        go_ret
        exact ⟨ret_bool (by rw [HE.out]), hbb⟩
      · rw [hq] at hc HXJ
        clear hq
        go_wp2_with fail
        refine hc.mono ?_
        clear hc
        rintro e w1 ⟨rfl, hb1⟩
        have hbb : Below w.heap.size w w1 := (hb.alloc hb.size _).trans (hb1.mono (by have := hb.size; simp; omega))
        clear hb1
        go_wp2_with fail
        go_roundg (LI.length - (k + 1))
        case measure => omega
        case rel => exact ⟨k + 1, by go_num, by omega, Nat.le_refl _, hbb, HXJ.out⟩
    · go_wp2_with fail
      go_ret
      exact ⟨ret_bool (by
        rw [← HFF.out]
        have h1 := HALL.out
        rw [List.take_of_length_le (by omega)] at h1
        exact h1.symm), hb⟩
set_option maxHeartbeats 2000000 in
set_option maxRecDepth 100000 in
theorem unionsRight_any (w : World) (S : Nat) (vR vO vI vU vN : Value) (LR : List (RRole × Value)) (LO : List (PObj × Value × Value × Value)) (LI : List (PIf × Value)) (LU : List (PUn × Value)) (names : List ByteArray) (h : SV w S vR vO vI vU vN LR LO LI LU names) (hsz : ∀ x ∈ LU, ∀ y ∈ x.1.members, y.size ≤ 4000) :
    Calls Tryz.prog 60 #[.pointer (some ⟨S, 0, none⟩)] w fun e w' => e = .returned (.bool (LU.all fun x => allK (kindN (LO.map oN) (LI.map iN) (LU.map uN)) 2 x.1.members)) ∧ Below w.heap.size w w' := by
  have H0 := hide h
  have HSZ := hide hsz
  have hlu := h.lu
  obtain ⟨a, cap, hv⟩ := own_slice h.u.own
  subst hv
  have c0 : w.cell? ⟨S, 3, none⟩ = some (.slice a LU.length cap) := cell_of_block h.sc 3
  generalize hFF : (LU.all fun x => allK (kindN (LO.map oN) (LI.map iN) (LU.map uN)) 2 x.1.members) = FF at *
  have HFF := hide hFF
  clear h hsz hFF
  go_enter Tryz.func60, Tryz.ntmps60
  go_wp2_with fail
  go_loopg [4, 10] LU.length (fun m v4 v10 wr => ∃ k : Nat, v10 = .int .i64 k ∧ k ≤ LU.length ∧ LU.length - k ≤ m ∧ Below w.heap.size w wr ∧ ((LU.take k).all fun x => allK (kindN (LO.map oN) (LI.map iN) (LU.map uN)) 2 x.1.members) = true)
  case atStart => exact ⟨0, rfl, Nat.zero_le _, by omega, Below.refl _ _, by simp⟩
  case round =>
    obtain ⟨k, rfl, hk, hm, hb, hall⟩ := hrel
    have HALL := hide hall
    clear hall
    by_cases hlt : k < LU.length
    · have hx := List.getElem?_eq_getElem hlt
      have hsv := H0.out.below hb
      obtain ⟨g, cap', hv, hcc⟩ := hsv.u.cell (fun _ => rfl) k _ hx
      cases hv
      have hok := hsv.u.ok _ (List.mem_of_getElem? hx)
      have d0 : wr.cell? ⟨g, k * 2, none⟩ = some (.string LU[k].1.name) := by simpa using hcc 0 _ rfl
      have d1 : wr.cell? ⟨g, k * 2 + 1, none⟩ = some LU[k].2 := hcc 1 _ rfl
      have hsz := HSZ.out _ (List.mem_of_getElem? hx)
      have HX := hide hx
      clear hx hcc
      generalize LU[k] = y at *
      obtain ⟨⟨yn, ym⟩, yv⟩ := y
      obtain ⟨hfl, hyl⟩ := hok
      simp only [] at *
      obtain ⟨aY, cY, rfl⟩ := own_slice hfl
      have hc := allOfKind_any (wr.alloc (.cells #[.string yn, .slice aY ym.length cY] 200)) S _ _ _ _ _ LR LO LI LU names _ ym 2 (hsv.below ((Below.refl _ _).alloc (Nat.le_refl _) _)) ((StrsAt.of_own hfl).below ((Below.refl _ _).alloc (Nat.le_refl _) _)) (by omega) hsz
      clear hsv hfl
      have HXJ := hide (show ((LU.take (k + 1)).all fun x => allK (kindN (LO.map oN) (LI.map iN) (LU.map uN)) 2 x.1.members) = allK (kindN (LO.map oN) (LI.map iN) (LU.map uN)) 2 ym from by
        rw [List.take_add_one, HX.out, List.all_append, HALL.out]; simp)
      cases hq : allK (kindN (LO.map oN) (LI.map iN) (LU.map uN)) 2 ym
      · rw [hq] at hc
        have HE := hide (show FF = false from by
          rw [← HFF.out, Bool.eq_false_iff]
          intro hT
          rw [List.all_eq_true] at hT
          have := hT _ (List.mem_of_getElem? HX.out)
          simp only [] at this
          rw [hq] at this; cases this)
        clear hq HXJ
        go_wp2_with fail
        refine hc.mono ?_
        clear hc
        rintro e w1 ⟨rfl, hb1⟩
        have hbb : Below w.heap.size w w1 := (hb.alloc hb.size _).trans (hb1.mono (by have := hb.size; simp; omega))
        clear hb1
        go_wp2_with fail
        go_ret
        exact ⟨ret_bool (by rw [HE.out]), hbb⟩
      · rw [hq] at hc HXJ
        clear hq
        go_wp2_with fail
        refine hc.mono ?_
        clear hc
        rintro e w1 ⟨rfl, hb1⟩
        have hbb : Below w.heap.size w w1 := (hb.alloc hb.size _).trans (hb1.mono (by have := hb.size; simp; omega))
        clear hb1
        go_wp2_with fail
        go_roundg (LU.length - (k + 1))
        case measure => omega
        case rel => exact ⟨k + 1, by go_num, by omega, Nat.le_refl _, hbb, HXJ.out⟩
    · go_wp2_with fail
      go_ret
      exact ⟨ret_bool (by
        rw [← HFF.out]
        have h1 := HALL.out
        rw [List.take_of_length_le (by omega)] at h1
        exact h1.symm), hb⟩
def namesB (l : List ByteArray) : Bool := (l.all fun x => !scalB x) && nodupB l
theorem SV.shapedN {w : World} {S : Nat} {vR vO vI vU vN : Value} {LR : List (RRole × Value)} {LO : List (PObj × Value × Value × Value)} {LI : List (PIf × Value)} {LU : List (PUn × Value)} {names : List ByteArray} (h : SV w S vR vO vI vU vN LR LO LI LU names) : Shaped shN w vN 1 names := by
  obtain ⟨a, cap, hv⟩ := own_slice h.n
  refine ⟨a, cap, hv, ?_⟩
  rcases h.n.2 with ⟨e, e0⟩ | ⟨g, cap', cur, hv', _⟩
  · left; exact List.eq_nil_of_length_eq_zero e0
  · right
    rw [hv] at hv'
    cases hv'
    refine ⟨g, rfl, fun j x hx => ⟨?_, fun k h1 h2 => by omega⟩⟩
    have hn := h.n
    rw [hv] at hn
    have hj := (List.getElem?_eq_some_iff.1 hx).1
    have := hn.cellAt j (by omega)
    rw [Nat.mul_one]
    simpa [strsV, hx] using this
set_option maxHeartbeats 2000000 in
set_option maxRecDepth 100000 in
theorem namesRight_any (w : World) (S : Nat) (vR vO vI vU vN : Value) (LR : List (RRole × Value)) (LO : List (PObj × Value × Value × Value)) (LI : List (PIf × Value)) (LU : List (PUn × Value)) (names : List ByteArray) (h : SV w S vR vO vI vU vN LR LO LI LU names) (hsz : ∀ x ∈ names, x.size ≤ 4000) :
    Calls Tryz.prog 57 #[.pointer (some ⟨S, 0, none⟩)] w fun e w' => e = .returned (.bool (namesB names)) ∧ Below w.heap.size w w' := by
  have H0 := hide h
  have HSZ := hide hsz
  have hln := h.ln
  obtain ⟨a, cap, hv⟩ := own_slice h.n
  subst hv
  have c0 : w.cell? ⟨S, 4, none⟩ = some (.slice a names.length cap) := cell_of_block h.sc 4
  have HQ := hide (show namesB names = ((names.all fun x => !scalB x) && nodupB names) from rfl)
  generalize namesB names = FF at *
  clear h hsz
  go_enter Tryz.func57, Tryz.ntmps57
  go_wp2_with fail
  go_loopg [4, 10] names.length (fun m v4 v10 wr => ∃ k : Nat, v10 = .int .i64 k ∧ k ≤ names.length ∧ names.length - k ≤ m ∧ Below w.heap.size w wr ∧ ((names.take k).all fun x => !scalB x) = true)
  case atStart => exact ⟨0, rfl, Nat.zero_le _, by omega, Below.refl _ _, by simp⟩
  case round =>
    obtain ⟨k, rfl, hk, hm, hb, hall⟩ := hrel
    have HALL := hide hall
    clear hall
    have hsv := H0.out.below hb
    have c0r : wr.cell? ⟨S, 4, none⟩ = some (.slice a names.length cap) := cell_of_block hsv.sc 4
    by_cases hlt : k < names.length
    · have hx := List.getElem?_eq_getElem hlt
      obtain ⟨a', cap', e1, h3⟩ := hsv.shapedN
      cases e1
      obtain ⟨g, ha, h4⟩ : ∃ g, a = some ⟨g, 0, none⟩ ∧ ∀ (j : Nat) (x : ByteArray), names[j]? = some x → wr.cell? ⟨g, j * 1, none⟩ = some (.string x) ∧ ∀ k, 0 < k → k < 1 → ∃ u, wr.cell? ⟨g, j * 1 + k, none⟩ = some u ∧ shN k u := by
        rcases h3 with e | e
        · rw [e] at hlt; simp at hlt
        · exact e
      subst ha
      have hcell := (h4 k _ hx).1
      simp only [Nat.mul_one] at hcell
      have HX := hide hx
      clear hx h4 h3 hsv
      generalize names[k] = y at *
      have hs := isScalar_any y
      have HXJ := hide (show ((names.take (k + 1)).all fun x => !scalB x) = !scalB y from by
        rw [List.take_add_one, HX.out, List.all_append, HALL.out]; simp)
      cases hq : scalB y
      · rw [hq] at hs HXJ
        clear hq
        go_wp2_with fail
        refine (hs _).mono ?_
        rintro e w1 ⟨rfl, hw1⟩
        have hw1 := hw1.symm
        subst hw1
        have hbb : Below w.heap.size w (wr.alloc (.cells #[.string y] 152)) := hb.alloc hb.size _
        go_wp2_with fail
        go_roundg (names.length - (k + 1))
        case measure => omega
        case rel => exact ⟨k + 1, by go_num, by omega, Nat.le_refl _, hbb, HXJ.out⟩
      · rw [hq] at hs
        have HE := hide (show FF = false from by
          rw [HQ.out, Bool.and_eq_false_iff]; left
          rw [Bool.eq_false_iff]
          intro hT
          rw [List.all_eq_true] at hT
          have := hT _ (List.mem_of_getElem? HX.out)
          rw [hq] at this; cases this)
        clear hq HXJ
        go_wp2_with fail
        refine (hs _).mono ?_
        rintro e w1 ⟨rfl, hw1⟩
        have hw1 := hw1.symm
        subst hw1
        go_wp2_with fail
        go_ret
        exact ⟨ret_bool (by rw [HE.out]), hb.alloc hb.size _⟩
    · have hc := distinctNamed_any wr _ names hsv.shapedN (by omega) HSZ.out
      have HE := hide (show FF = nodupB names from by
        rw [HQ.out]
        have h1 := HALL.out
        rw [List.take_of_length_le (by omega)] at h1
        rw [h1]; rfl)
      generalize nodupB names = GG at *
      clear hsv
      go_wp2_with fail
      refine hc.mono ?_
      clear hc
      rintro e w1 ⟨rfl, hb1⟩
      go_wp2_with fail
      go_ret
      exact ⟨ret_bool (by rw [HE.out]), hb.trans (hb1.mono hb.size)⟩
def bQuery : ByteArray := ⟨#[81, 117, 101, 114, 121]⟩
/-- is there a Query, and no rule at it? -/
def queryB (l : List PObj) : Bool := if idxI (l.map PObj.name) bQuery < 0 then false else match l[(idxI (l.map PObj.name) bQuery).toNat]? with
  | some o => o.rule.isNone
  | none => false
set_option maxHeartbeats 2000000 in
set_option maxRecDepth 100000 in
theorem queryRight_any (w : World) (S : Nat) (vR vO vI vU vN : Value) (LR : List (RRole × Value)) (LO : List (PObj × Value × Value × Value)) (LI : List (PIf × Value)) (LU : List (PUn × Value)) (names : List ByteArray) (h : SV w S vR vO vI vU vN LR LO LI LU names) :
    Calls Tryz.prog 61 #[.pointer (some ⟨S, 0, none⟩)] w fun e w' => e = .returned (.bool (queryB (LO.map Prod.fst))) ∧ Below w.heap.size w w' := by
  have hc := sObject_any w S vR vO vI vU vN LR LO LI LU names bQuery h
  have hn := ptrAt_nil h.rowObject bQuery
  have hmap : (LO.map Prod.fst).map PObj.name = LO.map oN := by rw [List.map_map]; rfl
  have hbd := idxI_bound (LO.map oN) bQuery
  by_cases hq : idxI (LO.map oN) bQuery < 0
  · rw [hn.1 hq] at hc
    have HE := hide (show queryB (LO.map Prod.fst) = false from by unfold queryB; rw [hmap, if_pos hq])
    generalize queryB (LO.map Prod.fst) = FF at *
    clear h hn hmap hbd hq
    go_enter Tryz.func61, Tryz.ntmps61
    go_wp2_with fail
    refine hc.mono ?_
    clear hc
    rintro e w1 ⟨rfl, hb1⟩
    go_wp2_with fail
    go_ret
    exact ⟨ret_bool (by rw [HE.out]), hb1⟩
  · obtain ⟨j, hj⟩ : ∃ j : Nat, idxI (LO.map oN) bQuery = j := ⟨(idxI (LO.map oN) bQuery).toNat, by omega⟩
    have hjl : j < LO.length := by rw [hj] at hbd; simp at hbd; omega
    have hx := List.getElem?_eq_getElem hjl
    obtain ⟨g, cap, hv, hcc⟩ := h.o.cell (fun _ => rfl) j _ hx
    have d3 : w.cell? ⟨g, j * 4 + 3, none⟩ = some LO[j].2.2.2 := hcc 3 _ rfl
    have hok := h.o.ok _ (List.mem_of_getElem? hx)
    have hru := hok.2.2.2.2
    have HE := hide (show queryB (LO.map Prod.fst) = LO[j].1.rule.isNone from by
      unfold queryB; rw [hmap, if_neg hq, hj]; simp only [Int.toNat_natCast]; rw [List.getElem?_map, hx]; rfl)
    rw [show ptrAt vO 4 (idxI (LO.map oN) bQuery) = .pointer (some ⟨g, j * 4, none⟩) from by unfold ptrAt; rw [if_neg hq, hj, hv]; simp] at hc
    generalize queryB (LO.map Prod.fst) = FF at *
    clear h hn hmap hbd hq hcc hv hx hok hj
    generalize LO[j] = y at *
    obtain ⟨⟨yn, yf, yi, yr⟩, y1, y2, y3⟩ := y
    simp only [] at *
    cases yr with
    | none =>
      have e3 : y3 = .pointer none := hru
      subst e3
      clear hru
      go_enter Tryz.func61, Tryz.ntmps61
      go_wp2_with fail
      refine hc.mono ?_
      clear hc
      rintro e w1 ⟨rfl, hb1⟩
      have d3' := cell_below hb1 d3
      go_wp2_with fail
      go_ret
      exact ⟨ret_bool (by rw [HE.out]; rfl), hb1⟩
    | some ls =>
      obtain ⟨kk, e3⟩ := RuAt.ptr (show RuAt w (fun k => S ≤ k) y3 ls from hru)
      subst e3
      clear hru
      go_enter Tryz.func61, Tryz.ntmps61
      go_wp2_with fail
      refine hc.mono ?_
      clear hc
      rintro e w1 ⟨rfl, hb1⟩
      have d3' := cell_below hb1 d3
      go_wp2_with fail
      go_ret
      exact ⟨ret_bool (by rw [HE.out]; rfl), hb1⟩
end Go.Proofs.YtpggfgjongkihaaGreat
namespace Go.Proofs.YtpggfgjongkihaaGreat
open Go.RowKit
set_option maxHeartbeats 2000000 in
set_option maxRecDepth 100000 in
theorem sameQ_any : ∀ (t u : PTy) (w : World) (B C : Nat) (v v' : Value), TyAt w B v t → TyAt w C v' u →
    Calls Tryz.prog 176 #[v, v'] w fun e w' => e = .returned (.bool (sameT t u)) ∧ ∃ m, w' = w.drewN m := by
  intro t
  induction t with
  | one n s =>
    intro u w B C v v' ht hu
    obtain ⟨k, rfl, _, hb⟩ := ht
    have c0 : w.cell? ⟨k, 0, none⟩ = some (.string n) := cell_of_block hb 0
    have c1 : w.cell? ⟨k, 1, none⟩ = some (.int .i64 0) := cell_of_block hb 1
    have c3 : w.cell? ⟨k, 3, none⟩ = some (.bool s) := cell_of_block hb 3
    clear hb
    cases u with
    | one m r =>
      obtain ⟨k', rfl, _, hb'⟩ := hu
      have d0 : w.cell? ⟨k', 0, none⟩ = some (.string m) := cell_of_block hb' 0
      have d1 : w.cell? ⟨k', 1, none⟩ = some (.int .i64 0) := cell_of_block hb' 1
      have d3 : w.cell? ⟨k', 3, none⟩ = some (.bool r) := cell_of_block hb' 3
      clear hb'
      have HQ := hide (show sameT (.one n s) (.one m r) = ((s == r) && (n.toList == m.toList)) from by rw [sameT, beq_bytes])
      generalize sameT (.one n s) (.one m r) = FF at *
      cases s <;> cases r
      all_goals (
        go_enter Tryz.func176, Tryz.ntmps176
        go_wp2_with fail
        go_quiet (fail)
        go_wp2_with fail
        try (go_quiet (fail); go_wp2_with fail)
        go_ret
        exact ⟨ret_bool (by rw [HQ.out]; simp), by first | exact ⟨_, World.drewN_drewN _ _ _⟩ | exact ⟨_, rfl⟩⟩)
    | list b r =>
      obtain ⟨k', u1, rfl, _, hb', _⟩ := hu
      have d1 : w.cell? ⟨k', 1, none⟩ = some (.int .i64 1) := cell_of_block hb' 1
      have d3 : w.cell? ⟨k', 3, none⟩ = some (.bool r) := cell_of_block hb' 3
      clear hb'
      rw [show sameT (.one n s) (.list b r) = false from rfl]
      go_enter Tryz.func176, Tryz.ntmps176
      go_wp2_with fail
      go_quiet (fail)
      go_wp2_with fail
      go_ret
      exact ⟨rfl, _, rfl⟩
  | list a s ih =>
    intro u w B C v v' ht hu
    obtain ⟨k, ua, rfl, _, hb, hta⟩ := ht
    obtain ⟨ka, rfl⟩ := hta.ptr
    have c1 : w.cell? ⟨k, 1, none⟩ = some (.int .i64 1) := cell_of_block hb 1
    have c2 : w.cell? ⟨k, 2, none⟩ = some (.pointer (some ⟨ka, 0, none⟩)) := cell_of_block hb 2
    have c3 : w.cell? ⟨k, 3, none⟩ = some (.bool s) := cell_of_block hb 3
    clear hb
    cases u with
    | one m r =>
      obtain ⟨k', rfl, _, hb'⟩ := hu
      have d1 : w.cell? ⟨k', 1, none⟩ = some (.int .i64 0) := cell_of_block hb' 1
      have d3 : w.cell? ⟨k', 3, none⟩ = some (.bool r) := cell_of_block hb' 3
      clear hb'
      rw [show sameT (.list a s) (.one m r) = false from rfl]
      go_enter Tryz.func176, Tryz.ntmps176
      go_wp2_with fail
      go_quiet (fail)
      go_wp2_with fail
      go_ret
      exact ⟨rfl, _, rfl⟩
    | list b r =>
      obtain ⟨k', ub, rfl, _, hb', htb⟩ := hu
      obtain ⟨kb, rfl⟩ := htb.ptr
      have d1 : w.cell? ⟨k', 1, none⟩ = some (.int .i64 1) := cell_of_block hb' 1
      have d2 : w.cell? ⟨k', 2, none⟩ = some (.pointer (some ⟨kb, 0, none⟩)) := cell_of_block hb' 2
      have d3 : w.cell? ⟨k', 3, none⟩ = some (.bool r) := cell_of_block hb' 3
      clear hb'
      have HC := hide (fun (n m : Nat) => ih b ((w.drewN n).drewN m) B C _ _ (hta.stays (Stay.of_below (below_drewN (below_drewN (Below.refl _ _) n) m))) (htb.stays (Stay.of_below (below_drewN (below_drewN (Below.refl _ _) n) m))))
      have HQ := hide (show sameT (.list a s) (.list b r) = ((s == r) && sameT a b) from rfl)
      generalize sameT (.list a s) (.list b r) = FF at *
      generalize sameT a b = GG at *
      clear ih hta htb
      cases s <;> cases r
      · go_enter Tryz.func176, Tryz.ntmps176
        go_wp2_with fail
        go_quiet (fail)
        go_wp2_with fail
        have c2q := cell_below (below_drewN (Below.refl _ _) nq) c2
        have d2q := cell_below (below_drewN (Below.refl _ _) nq) d2
        have HCq := hide (fun m => HC.out nq m)
        have HWQ := hide (show ∀ m, ∃ m', (w.drewN nq).drewN m = w.drewN m' from fun m => ⟨_, World.drewN_drewN _ _ _⟩)
        clear HC
        generalize w.drewN nq = W0 at *
        go_quiet (first | (go_at_call 176; refine Calls.quiet_of (HCq.out _)))
        go_wp2_with fail
        go_ret
        exact ⟨ret_bool (by rw [HQ.out]; simp), HWQ.out _⟩
      · go_enter Tryz.func176, Tryz.ntmps176
        go_wp2_with fail
        go_quiet (fail)
        go_wp2_with fail
        go_ret
        exact ⟨ret_bool (by rw [HQ.out]; simp), _, rfl⟩
      · go_enter Tryz.func176, Tryz.ntmps176
        go_wp2_with fail
        go_quiet (fail)
        go_wp2_with fail
        go_ret
        exact ⟨ret_bool (by rw [HQ.out]; simp), _, rfl⟩
      · go_enter Tryz.func176, Tryz.ntmps176
        go_wp2_with fail
        go_quiet (fail)
        go_wp2_with fail
        have c2q := cell_below (below_drewN (Below.refl _ _) nq) c2
        have d2q := cell_below (below_drewN (Below.refl _ _) nq) d2
        have HCq := hide (fun m => HC.out nq m)
        have HWQ := hide (show ∀ m, ∃ m', (w.drewN nq).drewN m = w.drewN m' from fun m => ⟨_, World.drewN_drewN _ _ _⟩)
        clear HC
        generalize w.drewN nq = W0 at *
        go_quiet (first | (go_at_call 176; refine Calls.quiet_of (HCq.out _)))
        go_wp2_with fail
        go_ret
        exact ⟨ret_bool (by rw [HQ.out]; simp), HWQ.out _⟩
def fsame (f g : PFld) : Bool := (f.name.toList == g.name.toList) && ((f.auth.toList == g.auth.toList) && ((f.hide_.toList == g.hide_.toList) && ((f.arg.toList == g.arg.toList) && ((f.scalar.toList == g.scalar.toList) && sameT f.ty g.ty))))
set_option maxHeartbeats 4000000 in
set_option maxRecDepth 100000 in
theorem fsame_any (w : World) (g o g' o' B C : Nat) (f f' : PFld) (u u' : Value) (hf : FldAt w g o f u) (hf' : FldAt w g' o' f' u') (ht : TyAt w B u f.ty) (ht' : TyAt w C u' f'.ty) :
    Calls Tryz.prog 141 #[.pointer (some ⟨g, o, none⟩), .pointer (some ⟨g', o', none⟩)] w fun e w' => e = .returned (.bool (fsame f f')) ∧ Below w.heap.size w w' := by
  obtain ⟨c0, c1, c2, c3, c4, c5⟩ := hf
  obtain ⟨d0, d1, d2, d3, d4, d5⟩ := hf'
  have HC := hide (fun (n : Nat) => sameQ_any f.ty f'.ty (w.drewN n) B C u u' (ht.stays (Stay.of_below (below_drewN (Below.refl _ _) n))) (ht'.stays (Stay.of_below (below_drewN (Below.refl _ _) n))))
  obtain ⟨ku, rfl⟩ := ht.ptr
  obtain ⟨ku', rfl⟩ := ht'.ptr
  have HQ := hide (show fsame f f' = ((f.name.toList == f'.name.toList) && ((f.auth.toList == f'.auth.toList) && ((f.hide_.toList == f'.hide_.toList) && ((f.arg.toList == f'.arg.toList) && ((f.scalar.toList == f'.scalar.toList) && sameT f.ty f'.ty))))) from rfl)
  generalize fsame f f' = FF at *
  clear ht ht'
  obtain ⟨fn, fa, fh, fx, fs, ft⟩ := f
  obtain ⟨gn, ga, gh, gx, gs, gt⟩ := f'
  simp only [] at *
  generalize sameT ft gt = GG at *
  cases t1 : (fn.toList == gn.toList)
  · rw [t1] at HQ
    go_enter Tryz.func141, Tryz.ntmps141
    go_wp2_with fail
    go_quiet (fail)
    go_wp2_with fail
    go_ret
    exact ⟨ret_bool (by rw [HQ.out]; rfl), below_drewN (Below.refl _ _) _⟩
  · skip
    cases t2 : (fa.toList == ga.toList)
    · rw [t1, t2] at HQ
      go_enter Tryz.func141, Tryz.ntmps141
      go_wp2_with fail
      go_quiet (fail)
      go_wp2_with fail
      go_ret
      exact ⟨ret_bool (by rw [HQ.out]; rfl), below_drewN (Below.refl _ _) _⟩
    · skip
      cases t3 : (fh.toList == gh.toList)
      · rw [t1, t2, t3] at HQ
        go_enter Tryz.func141, Tryz.ntmps141
        go_wp2_with fail
        go_quiet (fail)
        go_wp2_with fail
        go_ret
        exact ⟨ret_bool (by rw [HQ.out]; rfl), below_drewN (Below.refl _ _) _⟩
      · skip
        cases t4 : (fx.toList == gx.toList)
        · rw [t1, t2, t3, t4] at HQ
          go_enter Tryz.func141, Tryz.ntmps141
          go_wp2_with fail
          go_quiet (fail)
          go_wp2_with fail
          go_ret
          exact ⟨ret_bool (by rw [HQ.out]; rfl), below_drewN (Below.refl _ _) _⟩
        · skip
          cases t5 : (fs.toList == gs.toList)
          · rw [t1, t2, t3, t4, t5] at HQ
            go_enter Tryz.func141, Tryz.ntmps141
            go_wp2_with fail
            go_quiet (fail)
            go_wp2_with fail
            go_ret
            exact ⟨ret_bool (by rw [HQ.out]; rfl), below_drewN (Below.refl _ _) _⟩
          · skip
            rw [t1, t2, t3, t4, t5] at HQ
            go_enter Tryz.func141, Tryz.ntmps141
            go_wp2_with fail
            go_quiet (first | (go_at_call 176; refine Calls.quiet_of (HC.out _)))
            go_wp2_with fail
            go_ret
            exact ⟨ret_bool (by rw [HQ.out]; simp), below_drewN (Below.refl _ _) _⟩
end Go.Proofs.YtpggfgjongkihaaGreat
namespace Go.Proofs.YtpggfgjongkihaaGreat
open Go.RowKit
def ifFields (ifs : List PIf) (n : ByteArray) : List PFld := match ifs[(idxI (ifs.map PIf.name) n).toNat]? with
  | some i => i.fields
  | none => []
def sameAt (l : List PFld) (f : PFld) : Bool := if idxI (l.map PFld.name) f.name < 0 then false else match l[(idxI (l.map PFld.name) f.name).toNat]? with
  | some g => fsame f g
  | none => false
def implB (kind : ByteArray → Nat) (ifs : List PIf) (impl : List ByteArray) (l : List PFld) : Bool := allK kind 3 impl && impl.all fun n => (ifFields ifs n).all (sameAt l)
theorem kind3 {objs ifs uns : List ByteArray} {x : ByteArray} (h : kindN objs ifs uns x = 3) : ¬ idxI ifs x < 0 := by
  unfold kindN at h
  split at h
  · cases h
  · split at h
    · cases h
    · split at h
      · rename_i hh; unfold has at hh; simpa using hh
      · split at h <;> cases h
/-- one step of the inner loop: the field of the object that has this name, and whether it is the same -/
theorem sameAt_spec (w : World) (B : Nat) (vF : Value) (L : List (PFld × Value)) (l : List PFld) (hL : L.map Prod.fst = l) (hrow : RowG w B 180 6 vF flF (okF B) L) (f : PFld) :
    (ptrAt vF 6 (idxI (l.map PFld.name) f.name) = .pointer none ∧ sameAt l f = false) ∨ ∃ g o gf u, ptrAt vF 6 (idxI (l.map PFld.name) f.name) = .pointer (some ⟨g, o, none⟩) ∧ FldAt w g o gf u ∧ TyAt w B u gf.ty ∧ sameAt l f = fsame f gf := by
  have hrd : Rowed w vF 6 (l.map PFld.name) := by rw [← rowF_names L l hL]; exact hrow.rowed fN (fun _ => rfl) (fun _ => rfl)
  have hlen : L.length = l.length := by rw [← hL]; simp
  by_cases hq : idxI (l.map PFld.name) f.name < 0
  · left; exact ⟨(ptrAt_nil hrd f.name).1 hq, by unfold sameAt; rw [if_pos hq]⟩
  · right
    have hbd := idxI_bound (l.map PFld.name) f.name
    obtain ⟨j, hj⟩ : ∃ j : Nat, idxI (l.map PFld.name) f.name = j := ⟨(idxI (l.map PFld.name) f.name).toNat, by omega⟩
    have hjl : j < L.length := by rw [hj] at hbd; simp at hbd; omega
    have hx := List.getElem?_eq_getElem hjl
    obtain ⟨g, cap, hv, hfa, hta⟩ := hrow.fldAt j _ hx
    have hlj : l[j]? = some L[j].1 := by rw [← hL, List.getElem?_map, hx]; rfl
    refine ⟨g, j * 6, L[j].1, L[j].2, ?_, hfa, hta, ?_⟩
    · unfold ptrAt; rw [if_neg hq, hj, hv]; simp
    · unfold sameAt; rw [if_neg hq, hj]; simp only [Int.toNat_natCast]; rw [hlj]
set_option maxHeartbeats 4000000 in
set_option maxRecDepth 100000 in
theorem implementsRight_any (w : World) (S : Nat) (vR vO vI vU vN : Value) (LR : List (RRole × Value)) (LO : List (PObj × Value × Value × Value)) (LI : List (PIf × Value)) (LU : List (PUn × Value)) (names : List ByteArray) (gO oO : Nat) (vF vA : Value) (l : List PFld) (impl : List ByteArray) (h : SV w S vR vO vI vU vN LR LO LI LU names) (hcF : w.cell? ⟨gO, oO + 1, none⟩ = some vF) (hcA : w.cell? ⟨gO, oO + 2, none⟩ = some vA) (hF : PFlds w S vF l) (hA : w.ownsRow S 9 1 vA impl.length (strsV impl)) (hl : l.length ≤ 802) (hil : impl.length ≤ 803) (hsz : ∀ x ∈ impl, x.size ≤ 4000) :
    Calls Tryz.prog 102 #[.pointer (some ⟨S, 0, none⟩), .pointer (some ⟨gO, oO, none⟩)] w fun e w' => e = .returned (.bool (implB (kindN (LO.map oN) (LI.map iN) (LU.map uN)) (LI.map Prod.fst) impl l)) ∧ Below w.heap.size w w' := by
  have H0 := hide h
  obtain ⟨L, hL, hrow⟩ := hF.row
  have HL := hide hL
  have HROW := hide hrow
  have HSTR := hide (StrsAt.of_own hA)
  have hk := allOfKind_any w S vR vO vI vU vN LR LO LI LU names vA impl 3 h (StrsAt.of_own hA) (by omega) hsz
  obtain ⟨aA, cA, rfl⟩ := own_slice hA
  have HQ := hide (show implB (kindN (LO.map oN) (LI.map iN) (LU.map uN)) (LI.map Prod.fst) impl l = (allK (kindN (LO.map oN) (LI.map iN) (LU.map uN)) 3 impl && impl.all fun n => (ifFields (LI.map Prod.fst) n).all (sameAt l)) from rfl)
  generalize implB (kindN (LO.map oN) (LI.map iN) (LU.map uN)) (LI.map Prod.fst) impl l = FF at *
  have HK3 := hide (show allK (kindN (LO.map oN) (LI.map iN) (LU.map uN)) 3 impl = true → ∀ x ∈ impl, (kindN (LO.map oN) (LI.map iN) (LU.map uN)) x = 3 from fun hT x hx => by
    unfold allK at hT
    rw [Bool.and_eq_true, List.all_eq_true] at hT
    simpa using hT.2 x hx)
  have HCF := hide hcF
  have HCA := hide hcA
  clear h hF hA hsz hrow hL
  cases hq : allK (kindN (LO.map oN) (LI.map iN) (LU.map uN)) 3 impl
  · rw [hq] at hk HQ
    clear HK3 hq
    go_enter Tryz.func102, Tryz.ntmps102
    go_wp2_with fail
    refine hk.mono ?_
    clear hk
    rintro e w1 ⟨rfl, hb1⟩
    go_wp2_with fail
    go_ret
    exact ⟨ret_bool (by rw [HQ.out]; rfl), hb1⟩
  · rw [hq] at hk HQ
    have HK3' := hide (HK3.out hq)
    clear HK3 hq
    go_enter Tryz.func102, Tryz.ntmps102
    go_wp2_with fail
    refine hk.mono ?_
    clear hk
    rintro e w1 ⟨rfl, hb1⟩
    have hcA1 := cell_below hb1 HCA.out
    go_wp2_with fail
    go_loopg [6, 8, 9, 22, 32, 33, 34] impl.length (fun m v6 v8 v9 v22 v32 v33 v34 wr => ∃ k : Nat, v22 = .int .i64 k ∧ k ≤ impl.length ∧ impl.length - k ≤ m ∧ Below w.heap.size w wr ∧ ((impl.take k).all fun n => (ifFields (LI.map Prod.fst) n).all (sameAt l)) = true)
    case atStart => exact ⟨0, rfl, Nat.zero_le _, by omega, hb1, by simp⟩
    case round =>
      clear hb1 hcA1
      obtain ⟨wo, rfl⟩ : ∃ wo : World, wo = wr := ⟨_, rfl⟩
      obtain ⟨k, rfl, hk, hm, hb, hall⟩ := hrel
      have HALL := hide hall
      clear hall
      by_cases hlt : k < impl.length
      · have hx := List.getElem?_eq_getElem hlt
        obtain ⟨a', cap', e1, _, h3⟩ := HSTR.out.below hb
        cases e1
        obtain ⟨g, off, ha, h4⟩ : ∃ g off, aA = some ⟨g, off, none⟩ ∧ ∀ (j : Nat) (x : ByteArray), impl[j]? = some x → wo.cell? ⟨g, off + j, none⟩ = some (.string x) := by
          rcases h3 with e | e
          · rw [e] at hlt; simp at hlt
          · exact e
        subst ha
        have hcell := h4 k _ hx
        have hk3 := HK3'.out _ (List.mem_of_getElem? hx)
        have HX := hide hx
        clear hx h4 h3
        generalize impl[k] = y at *
        have hsv := H0.out.below hb
        have hif := sIface_any wo S vR vO vI vU vN LR LO LI LU names y hsv
        have hni := kind3 hk3
        have hbd := idxI_bound (LI.map iN) y
        obtain ⟨j, hj⟩ : ∃ j : Nat, idxI (LI.map iN) y = j := ⟨(idxI (LI.map iN) y).toNat, by omega⟩
        have hjl : j < LI.length := by rw [hj] at hbd; simp at hbd; omega
        have hxi := List.getElem?_eq_getElem hjl
        obtain ⟨gi, capi, hvi, hcc⟩ := hsv.i.cell (fun _ => rfl) j _ hxi
        have hoki := hsv.i.ok _ (List.mem_of_getElem? hxi)
        rw [show ptrAt vI 2 (idxI (LI.map iN) y) = .pointer (some ⟨gi, j * 2, none⟩) from by unfold ptrAt; rw [if_neg hni, hj, hvi]; simp] at hif
        have di1 : wo.cell? ⟨gi, j * 2 + 1, none⟩ = some LI[j].2 := hcc 1 _ rfl
        have HFI := hide (show ifFields (LI.map Prod.fst) y = LI[j].1.fields from by
          unfold ifFields
          rw [show (LI.map Prod.fst).map PIf.name = LI.map iN from by rw [List.map_map]; rfl, hj]
          simp only [Int.toNat_natCast]
          rw [List.getElem?_map, hxi]; rfl)
        clear hcc hxi hni hk3 hj hbd
        generalize LI[j] = z at *
        obtain ⟨⟨zn, zf⟩, zv⟩ := z
        obtain ⟨hzF, hzl⟩ := hoki
        simp only [] at *
        obtain ⟨Lz, hLz, hrz⟩ := hzF.row
        have hlz : Lz.length = zf.length := by rw [← hLz]; simp
        obtain ⟨az, cz, rfl⟩ := own_slice hrz.own
        have HLZ := hide hLz
        have HRZ := hide hrz
        have HXJ := hide (show ((impl.take (k + 1)).all fun n => (ifFields (LI.map Prod.fst) n).all (sameAt l)) = zf.all (sameAt l) from by
          rw [List.take_add_one, HX.out, List.all_append, HALL.out]; simp [HFI.out])
        clear hzF hLz hrz hsv
        go_wp2_with fail
        refine hif.mono ?_
        clear hif
        rintro e w2 ⟨rfl, hb2⟩
        have di2 := cell_below hb2 di1
        have hb02 : Below w.heap.size w w2 := hb.trans (hb2.mono hb.size)
        go_wp2_with fail
        go_loopg [8, 9, 34] Lz.length (fun m v8 v9 v34 wr => ∃ i : Nat, v34 = .int .i64 i ∧ i ≤ Lz.length ∧ Lz.length - i ≤ m ∧ Below wo.heap.size wo wr ∧ ((Lz.take i).all fun x => sameAt l x.1) = true)
        case atStart => exact ⟨0, rfl, Nat.zero_le _, by omega, hb2, by simp⟩
        case round =>
          obtain ⟨i, rfl, hi, hmi, hbi, halli⟩ := hrel
          have HALLI := hide halli
          clear halli
          have hbw2 : Below w.heap.size w wr := hb.trans (hbi.mono hb.size)
          clear hb2 hb02 di1 di2
          by_cases hlti : i < Lz.length
          · have hxz := List.getElem?_eq_getElem hlti
            obtain ⟨gz, capz, hvz, hfz, htz⟩ := HRZ.out.fldAt i _ hxz
            cases hvz
            have hfz2 := hfz.below hbi
            have htz2 := htz.stays (Stay.of_below hbi)
            have HXZ := hide hxz
            clear hxz hfz htz
            generalize Lz[i] = q at *
            obtain ⟨⟨qn, qa, qh, qx, qs, qt⟩, qu⟩ := q
            simp only [] at *
            obtain ⟨kq, rfl⟩ := htz2.ptr
            obtain ⟨e0, e1, e2, e3, e4, e5⟩ := hfz2
            simp only [] at *
            have hFf : FldAt (wr.alloc (.cells #[.string qn, .string qa, .string qh, .string qx, .string qs, .pointer (some ⟨kq, 0, none⟩)] 180)) wr.heap.size 0 ⟨qn, qa, qh, qx, qs, qt⟩ (.pointer (some ⟨kq, 0, none⟩)) := ⟨by simp, by simp, by simp, by simp, by simp, by simp⟩
            have hTf := htz2.stays (Stay.alloc (.cells #[.string qn, .string qa, .string qh, .string qx, .string qs, .pointer (some ⟨kq, 0, none⟩)] 180))
            have hbf : Below w.heap.size w (wr.alloc (.cells #[.string qn, .string qa, .string qh, .string qx, .string qs, .pointer (some ⟨kq, 0, none⟩)] 180)) := hbw2.alloc hbw2.size _
            have hbrf : Below wo.heap.size wo (wr.alloc (.cells #[.string qn, .string qa, .string qh, .string qx, .string qs, .pointer (some ⟨kq, 0, none⟩)] 180)) := hbi.alloc hbi.size _
            have hrd : Rowed w vF 6 (l.map PFld.name) := by rw [← rowF_names L l HL.out]; exact HROW.out.rowed fN (fun _ => rfl) (fun _ => rfl)
            have HC1 := hide (show ∀ W, Below (wr.alloc (.cells #[.string qn, .string qa, .string qh, .string qx, .string qs, .pointer (some ⟨kq, 0, none⟩)] 180)).heap.size (wr.alloc (.cells #[.string qn, .string qa, .string qh, .string qx, .string qs, .pointer (some ⟨kq, 0, none⟩)] 180)) W → Calls Tryz.prog 140 #[.pointer (some ⟨gO, oO, none⟩), .string qn] W fun e w' => e = .returned (ptrAt vF 6 (idxI (l.map PFld.name) qn)) ∧ Below (wr.alloc (.cells #[.string qn, .string qa, .string qh, .string qx, .string qs, .pointer (some ⟨kq, 0, none⟩)] 180)).heap.size (wr.alloc (.cells #[.string qn, .string qa, .string qh, .string qx, .string qs, .pointer (some ⟨kq, 0, none⟩)] 180)) w' from fun W hW =>
              (fieldOf_any W gO oO vF qn (l.map PFld.name) (cell_below (hbf.trans (hW.mono hbf.size)) HCF.out) (hrd.below (hbf.trans (hW.mono hbf.size))) (by simp; omega)).mono (fun e w' ⟨a1, a2⟩ => ⟨a1, hW.trans (a2.mono hW.size)⟩))
            have hspec := sameAt_spec w S vF L l HL.out HROW.out ⟨qn, qa, qh, qx, qs, qt⟩
            simp only [] at hspec
            have HXI := hide (show ((Lz.take (i + 1)).all fun x => sameAt l x.1) = sameAt l ⟨qn, qa, qh, qx, qs, qt⟩ from by
              rw [List.take_add_one, HXZ.out, List.all_append, HALLI.out]; simp)
            have HFALSE := hide (show sameAt l ⟨qn, qa, qh, qx, qs, qt⟩ = false → FF = false from fun hF => by
              rw [HQ.out, Bool.true_and, Bool.eq_false_iff]
              intro hT
              rw [List.all_eq_true] at hT
              have h1 := hT y (List.mem_of_getElem? HX.out)
              rw [HFI.out, List.all_eq_true] at h1
              have h2 := h1 ⟨qn, qa, qh, qx, qs, qt⟩ (by rw [← HLZ.out]; exact List.mem_map_of_mem (List.mem_of_getElem? HXZ.out))
              rw [hF] at h2; cases h2)
            have HBF := hide hbf
            have HBRF := hide hbrf
            have HFf := hide hFf
            have HTf := hide hTf
            clear hbf hbrf hFf hTf hrd htz2
            rcases hspec with ⟨hp, hs⟩ | ⟨gg, og, gf, gu, hp, hgf, hgt, hs⟩
            · rw [hp] at HC1
              have HE := hide (HFALSE.out hs)
              clear hp hs HFALSE HXI
              go_wp2_with fail
              go_region_with (go_at_call 140; refine (HC1.out _ ?_).mono ?_; (first | exact (Below.refl _ _).drew | exact Below.refl _ _); rintro e w3 ⟨rfl, hb3⟩)
              all_goals (
                go_wp2_with fail
                go_ret
                exact ⟨ret_bool (by rw [HE.out]), HBF.out.trans (hb3.mono HBF.out.size)⟩)
            · rw [hp] at HC1
              have HC2 := hide (show ∀ W, Below (wr.alloc (.cells #[.string qn, .string qa, .string qh, .string qx, .string qs, .pointer (some ⟨kq, 0, none⟩)] 180)).heap.size (wr.alloc (.cells #[.string qn, .string qa, .string qh, .string qx, .string qs, .pointer (some ⟨kq, 0, none⟩)] 180)) W → Calls Tryz.prog 141 #[.pointer (some ⟨wr.heap.size, 0, none⟩), .pointer (some ⟨gg, og, none⟩)] W fun e w' => e = .returned (.bool (sameAt l ⟨qn, qa, qh, qx, qs, qt⟩)) ∧ Below (wr.alloc (.cells #[.string qn, .string qa, .string qh, .string qx, .string qs, .pointer (some ⟨kq, 0, none⟩)] 180)).heap.size (wr.alloc (.cells #[.string qn, .string qa, .string qh, .string qx, .string qs, .pointer (some ⟨kq, 0, none⟩)] 180)) w' from fun W hW => by
                rw [hs]
                exact (fsame_any W wr.heap.size 0 gg og S S ⟨qn, qa, qh, qx, qs, qt⟩ gf _ gu (HFf.out.below hW) (hgf.below (HBF.out.trans (hW.mono HBF.out.size))) (HTf.out.stays (Stay.of_below hW)) (hgt.stays (Stay.of_below (HBF.out.trans (hW.mono HBF.out.size))))).mono (fun e w' ⟨a1, a2⟩ => ⟨a1, hW.trans (a2.mono hW.size)⟩))
              clear hp hs hgf hgt
              cases hsa : sameAt l ⟨qn, qa, qh, qx, qs, qt⟩
              · rw [hsa] at HC2
                have HE := hide (HFALSE.out hsa)
                clear hsa HFALSE HXI
                go_wp2_with fail
                go_region_with (go_at_call 140; refine (HC1.out _ ?_).mono ?_; (first | exact (Below.refl _ _).drew | exact Below.refl _ _); rintro e w3 ⟨rfl, hb3⟩)
                all_goals (
                  go_wp2_with fail
                  refine (HC2.out w3 hb3).mono ?_
                  rintro e w4 ⟨rfl, hb4⟩
                  go_wp2_with fail
                  go_ret
                  exact ⟨ret_bool (by rw [HE.out]), HBF.out.trans (hb4.mono HBF.out.size)⟩)
              · rw [hsa] at HC2 HXI
                clear hsa HFALSE
                go_wp2_with fail
                go_region_with (go_at_call 140; refine (HC1.out _ ?_).mono ?_; (first | exact (Below.refl _ _).drew | exact Below.refl _ _); rintro e w3 ⟨rfl, hb3⟩)
                all_goals (
                  go_wp2_with fail
                  refine (HC2.out w3 hb3).mono ?_
                  rintro e w4 ⟨rfl, hb4⟩
                  have hbn := HBRF.out.trans (hb4.mono HBRF.out.size)
                  clear hb3 hb4
                  go_wp2_with fail
                  go_roundg (Lz.length - (i + 1))
                  case measure => omega
                  case rel => exact ⟨i + 1, by go_num, by omega, Nat.le_refl _, hbn, HXI.out⟩)
          · have HXE := hide (show ((impl.take (k + 1)).all fun n => (ifFields (LI.map Prod.fst) n).all (sameAt l)) = true from by
              rw [HXJ.out, ← HLZ.out, List.all_map]
              have h1 := HALLI.out
              rw [List.take_of_length_le (by omega)] at h1
              exact h1)
            go_wp2_with fail
            go_roundg (impl.length - (k + 1))
            case measure => omega
            case rel => exact ⟨k + 1, by go_num, by omega, Nat.le_refl _, hbw2, HXE.out⟩
      · go_wp2_with fail
        go_ret
        exact ⟨ret_bool (by
          rw [HQ.out]
          have h1 := HALL.out
          rw [List.take_of_length_le (by omega)] at h1
          rw [h1]; rfl), hb⟩
end Go.Proofs.YtpggfgjongkihaaGreat
namespace Go.Proofs.YtpggfgjongkihaaGreat
open Go.RowKit
def ruleB (roles : List ByteArray) (l : List PFld) : Option (List Leaf) → Bool
  | none => true
  | some ls => ls.all (leafB roles l)
def objB (roles : List ByteArray) (kind : ByteArray → Nat) (ifs : List PIf) (o : PObj) : Bool := fldsB roles kind o.fields && (implB kind ifs o.impl o.fields && ruleB roles o.fields o.rule)
set_option maxHeartbeats 4000000 in
set_option maxRecDepth 100000 in
theorem objectsRight_any (w : World) (S : Nat) (vR vO vI vU vN : Value) (LR : List (RRole × Value)) (LO : List (PObj × Value × Value × Value)) (LI : List (PIf × Value)) (LU : List (PUn × Value)) (names : List ByteArray) (h : SV w S vR vO vI vU vN LR LO LI LU names) (hsz : ∀ x ∈ LO, (∀ f ∈ x.1.fields, f.name.size ≤ 4000) ∧ ∀ y ∈ x.1.impl, y.size ≤ 4000) :
    Calls Tryz.prog 58 #[.pointer (some ⟨S, 0, none⟩)] w fun e w' => e = .returned (.bool (LO.all fun x => objB (LR.map rN) (kindN (LO.map oN) (LI.map iN) (LU.map uN)) (LI.map Prod.fst) x.1)) ∧ Below w.heap.size w w' := by
  have H0 := hide h
  have HSZ := hide hsz
  have hlo := h.lo
  obtain ⟨a, cap, hv⟩ := own_slice h.o.own
  subst hv
  have c0 : w.cell? ⟨S, 1, none⟩ = some (.slice a LO.length cap) := cell_of_block h.sc 1
  generalize hFF : (LO.all fun x => objB (LR.map rN) (kindN (LO.map oN) (LI.map iN) (LU.map uN)) (LI.map Prod.fst) x.1) = FF at *
  have HFF := hide hFF
  clear h hsz hFF
  go_enter Tryz.func58, Tryz.ntmps58
  go_wp2_with fail
  go_loopg [3, 4, 10] LO.length (fun m v3 v4 v10 wr => ∃ k : Nat, v10 = .int .i64 k ∧ k ≤ LO.length ∧ LO.length - k ≤ m ∧ Below w.heap.size w wr ∧ ((LO.take k).all fun x => objB (LR.map rN) (kindN (LO.map oN) (LI.map iN) (LU.map uN)) (LI.map Prod.fst) x.1) = true)
  case atStart => exact ⟨0, rfl, Nat.zero_le _, by omega, Below.refl _ _, by simp⟩
  case round =>
    obtain ⟨k, rfl, hk, hm, hb, hall⟩ := hrel
    have HALL := hide hall
    clear hall
    by_cases hlt : k < LO.length
    · have hx := List.getElem?_eq_getElem hlt
      have hsv := H0.out.below hb
      have cS : wr.cell? ⟨S, 1, none⟩ = some (.slice a LO.length cap) := cell_of_block hsv.sc 1
      obtain ⟨g, cap', hv, hcc⟩ := hsv.o.cell (fun _ => rfl) k _ hx
      cases hv
      have hok := hsv.o.ok _ (List.mem_of_getElem? hx)
      have c1 : wr.cell? ⟨g, k * 4 + 1, none⟩ = some LO[k].2.1 := hcc 1 _ rfl
      have c2 : wr.cell? ⟨g, k * 4 + 2, none⟩ = some LO[k].2.2.1 := hcc 2 _ rfl
      have c3 : wr.cell? ⟨g, k * 4 + 3, none⟩ = some LO[k].2.2.2 := hcc 3 _ rfl
      have hsz := HSZ.out _ (List.mem_of_getElem? hx)
      have HX := hide hx
      clear hx hcc
      generalize LO[k] = y at *
      obtain ⟨⟨yn, yf, yi, yr⟩, y1, y2, y3⟩ := y
      obtain ⟨hfl, hfn, hil, hin, hru⟩ := hok
      simp only [] at *
      have HXJ := hide (show ((LO.take (k + 1)).all fun x => objB (LR.map rN) (kindN (LO.map oN) (LI.map iN) (LU.map uN)) (LI.map Prod.fst) x.1) = (fldsB (LR.map rN) (kindN (LO.map oN) (LI.map iN) (LU.map uN)) yf && (implB (kindN (LO.map oN) (LI.map iN) (LU.map uN)) (LI.map Prod.fst) yi yf && ruleB (LR.map rN) yf yr)) from by
        rw [List.take_add_one, HX.out, List.all_append, HALL.out]; simp [objB])
      have HFALSE := hide (show (fldsB (LR.map rN) (kindN (LO.map oN) (LI.map iN) (LU.map uN)) yf && (implB (kindN (LO.map oN) (LI.map iN) (LU.map uN)) (LI.map Prod.fst) yi yf && ruleB (LR.map rN) yf yr)) = false → FF = false from fun hF => by
        rw [← HFF.out, Bool.eq_false_iff]
        intro hT
        rw [List.all_eq_true] at hT
        have := hT _ (List.mem_of_getElem? HX.out)
        simp only [objB] at this
        rw [hF] at this; cases this)
      have h1 := fieldsRight_any wr S _ _ _ _ _ LR LO LI LU names y1 S yf hsv hfl (by omega) hsz.1
      have H2 := hide (fun w' (hb' : Below wr.heap.size wr w') => implementsRight_any w' S _ _ _ _ _ LR LO LI LU names g (k * 4) y1 y2 yf yi (hsv.below hb') (cell_below hb' c1) (cell_below hb' c2) (hfl.stays (Stay.of_below hb') (Stay.of_below hb')) (ownsRow_below hil hb') hfn hin hsz.2)
      obtain ⟨aF, cF, rfl⟩ := hfl.slice
      generalize fldsB (LR.map rN) (kindN (LO.map oN) (LI.map iN) (LU.map uN)) yf = q1 at *
      generalize implB (kindN (LO.map oN) (LI.map iN) (LU.map uN)) (LI.map Prod.fst) yi yf = q2 at *
      cases q1
      · have HE := hide (HFALSE.out rfl)
        clear HFALSE HXJ hsv hfl hil hru H2
        go_wp2_with fail
        refine h1.mono ?_
        clear h1
        rintro e w1 ⟨rfl, hb1⟩
        have hb01 := hb.trans (hb1.mono hb.size)
        go_wp2_with fail
        go_ret
        exact ⟨ret_bool (by rw [HE.out]), hb01⟩
      · cases q2
        · have HE := hide (HFALSE.out rfl)
          clear HFALSE HXJ hsv hfl hil hru
          go_wp2_with fail
          refine h1.mono ?_
          clear h1
          rintro e w1 ⟨rfl, hb1⟩
          have hb01 := hb.trans (hb1.mono hb.size)
          have r3 := cell_below hb1 c3
          go_wp2_with fail
          refine (H2.out w1 hb1).mono ?_
          rintro e w2 ⟨rfl, hb2⟩
          have hb12 := hb1.trans (hb2.mono hb1.size)
          have hb02 := hb.trans (hb12.mono hb.size)
          have r3' := cell_below hb12 c3
          go_wp2_with fail
          go_ret
          exact ⟨ret_bool (by rw [HE.out]), hb02⟩
        · cases yr with
          | none =>
            have e3 : y3 = .pointer none := hru
            subst e3
            have HXJ2 := hide (HXJ.out.trans (by rfl : _ = true))
            clear HFALSE HXJ hsv hfl hil hru
            have HXJ := HXJ2
            clear HXJ2
            go_wp2_with fail
            refine h1.mono ?_
            clear h1
            rintro e w1 ⟨rfl, hb1⟩
            have hb01 := hb.trans (hb1.mono hb.size)
            have r3 := cell_below hb1 c3
            go_wp2_with fail
            refine (H2.out w1 hb1).mono ?_
            rintro e w2 ⟨rfl, hb2⟩
            have hb12 := hb1.trans (hb2.mono hb1.size)
            have hb02 := hb.trans (hb12.mono hb.size)
            have r3' := cell_below hb12 c3
            go_wp2_with fail
            go_roundg (LO.length - (k + 1))
            case measure => omega
            case rel => exact ⟨k + 1, by go_num, by omega, Nat.le_refl _, hb02, HXJ.out⟩
          | some ls =>
            have hru' : RuAt wr (fun k => S ≤ k) y3 ls := hru
            obtain ⟨kr, e3⟩ := hru'.ptr
            subst e3
            have H3 := hide (fun W (hW : Below wr.heap.size wr W) => ruleRight_any wr S _ _ _ _ _ LR LO LI LU names g (k * 4) S _ yf (fun k => S ≤ k) hsv c1 hfl (by omega) _ ls hru' W hW)
            have HXJ2 := hide (HXJ.out.trans (by simp [ruleB] : _ = ls.all (leafB (LR.map rN) yf)))
            have HF2 := hide (show ls.all (leafB (LR.map rN) yf) = false → FF = false from fun hF => HFALSE.out (by simp only [ruleB, hF]; rfl))
            clear HFALSE HXJ hsv hfl hil hru hru'
            generalize ls.all (leafB (LR.map rN) yf) = q3 at *
            have HXJ := HXJ2
            clear HXJ2
            cases q3
            · have HE := hide (HF2.out rfl)
              clear HF2 HXJ
              go_wp2_with fail
              refine h1.mono ?_
              clear h1
              rintro e w1 ⟨rfl, hb1⟩
              have hb01 := hb.trans (hb1.mono hb.size)
              have r3 := cell_below hb1 c3
              go_wp2_with fail
              refine (H2.out w1 hb1).mono ?_
              rintro e w2 ⟨rfl, hb2⟩
              have hb12 := hb1.trans (hb2.mono hb1.size)
              have hb02 := hb.trans (hb12.mono hb.size)
              have r3' := cell_below hb12 c3
              go_wp2_with fail
              refine (H3.out w2 hb12).mono ?_
              rintro e w3 ⟨rfl, hb3⟩
              have hb03 := hb02.trans (hb3.mono hb02.size)
              go_wp2_with fail
              go_ret
              exact ⟨ret_bool (by rw [HE.out]), hb03⟩
            · clear HF2
              go_wp2_with fail
              refine h1.mono ?_
              clear h1
              rintro e w1 ⟨rfl, hb1⟩
              have hb01 := hb.trans (hb1.mono hb.size)
              have r3 := cell_below hb1 c3
              go_wp2_with fail
              refine (H2.out w1 hb1).mono ?_
              rintro e w2 ⟨rfl, hb2⟩
              have hb12 := hb1.trans (hb2.mono hb1.size)
              have hb02 := hb.trans (hb12.mono hb.size)
              have r3' := cell_below hb12 c3
              go_wp2_with fail
              refine (H3.out w2 hb12).mono ?_
              rintro e w3 ⟨rfl, hb3⟩
              have hb03 := hb02.trans (hb3.mono hb02.size)
              go_wp2_with fail
              go_roundg (LO.length - (k + 1))
              case measure => omega
              case rel => exact ⟨k + 1, by go_num, by omega, Nat.le_refl _, hb03, HXJ.out⟩
    · go_wp2_with fail
      go_ret
      exact ⟨ret_bool (by
        rw [← HFF.out]
        have h1 := HALL.out
        rw [List.take_of_length_le (by omega)] at h1
        exact h1.symm), hb⟩
end Go.Proofs.YtpggfgjongkihaaGreat
