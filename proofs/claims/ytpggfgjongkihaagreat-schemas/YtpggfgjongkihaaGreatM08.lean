/- The reference's reader: object. -/
import Derived.Test.YtpggfgjongkihaaGreatM07
import Derived.Deep.CutBlock
namespace Go.Proofs.YtpggfgjongkihaaGreat
open Go.RowKit
def bImpl : ByteArray := ofB [105, 109, 112, 108, 101, 109, 101, 110, 116, 115]
def bRows : ByteArray := ofB [114, 111, 119, 115]
def rImpF : Nat → St → List ByteArray × St
  | 0, s => ([], s)
  | f + 1, s => if s.isNone = true then ([], s) else
    if isK (nmT s) 1 = true then (nm s :: (rImpF f (nmT s)).1, (rImpF f (nmT s)).2) else ([nm s], nmT s)
def rImp (s : St) : List ByteArray × St := if isW s bImpl = true then rImpF 801 (tl s) else ([], s)
def eaten : St → St → List Tk
  | some l, some l' => l.take (l.length - l'.length)
  | _, _ => []
def rRows (s : St) : List Tk × St :=
  if isK s 11 = true then
    let s4 := mustT (tl s) (isW (tl s) bRows)
    let s5 := mustT s4 (isK s4 7)
    (eaten s5 (rRule s5), mustT (rRule s5) (isK (rRule s5) 8))
  else ([], s)
def rObject (s : St) : RDef × St :=
  let p := rImp (nmT s)
  let q := rRows p.2
  (⟨0, nm s, (rFields q.2).1, p.1, isK p.2 11, q.1⟩, (rFields q.2).2)
theorem rImpF_fuel : ∀ (f : Nat) (s : St), ln s ≤ f → rImpF f s = rImpF (ln s) s := by
  intro f
  induction f using Nat.strongRecOn with
  | _ f ih =>
    intro s hl
    match f, s, hl with
    | f, none, hl =>
      match f with
      | 0 => rfl
      | f + 1 => rfl
    | 0, some l, hl => simp [ln] at hl
    | f + 1, some l, hl =>
      show rImpF (f + 1) (some l) = rImpF (l.length + 1) (some l)
      have hl' : l.length ≤ f := by simpa [ln] using hl
      have h1 : ln (some l) = l.length + 1 := rfl
      have h0 := ln_nmT_lt (some l) rfl
      simp only [rImpF]
      have e : rImpF f (nmT (some l)) = rImpF l.length (nmT (some l)) := by
        rw [ih f (by omega) _ (by omega)]
        by_cases e : l.length = f
        · rw [e, ih f (by omega) _ (by omega)]
        · rw [ih l.length (by omega) _ (by omega)]
      rw [e]
theorem rImpF_none (s : St) (h : s.isNone = true) : rImpF (ln s) s = ([], s) := by
  match s, h with
  | none, _ => rfl
theorem rImpF_some (s : St) (h : s.isNone = false) : rImpF (ln s) s = if isK (nmT s) 1 = true then (nm s :: (rImpF (ln (nmT s)) (nmT s)).1, (rImpF (ln (nmT s)) (nmT s)).2) else ([nm s], nmT s) := by
  have h0 := ln_nmT_lt s h
  match s, h, h0 with
  | some l, h, h0 =>
    have h1 : ln (some l) = l.length + 1 := rfl
    rw [h1] at h0 ⊢
    rw [← rImpF_fuel l.length _ (by omega)]
    rfl
theorem isK1_eq (s : St) : isK s 1 = decide (rk (hd s).k = 1) := by
  unfold isK
  rw [Bool.eq_iff_iff]
  simp only [beq_iff_eq, decide_eq_true_eq]
  exact (rk_one _).symm
/-- a slice of the tokens' row -/
def TokSl (w : World) (v : Value) (l : List Tk) : Prop := (v = .slice none 0 0 ∧ l = []) ∨ ∃ g off cap cur, v = .slice (some ⟨g, off, none⟩) l.length cap ∧ w.heap[g]? = some (.cells cur 137 (0, 0)) ∧ (cur.toList.drop off).take (l.length * 3) = refToks l
theorem TokSl.keep {w w' : World} {b : Nat} {v : Value} {l : List Tk} {cs : Array Value} {T : TypeId} {fr : Nat × Nat} (h : TokSl w v l) (hk : Keep b w w') (hb : w.heap[b]? = some (.cells cs T fr)) (hT : T ≠ 137) : TokSl w' v l := by
  rcases h with h | ⟨g, off, cap, cur, h1, h2, h3⟩
  · exact Or.inl h
  · refine Or.inr ⟨g, off, cap, cur, h1, ?_, h3⟩
    rw [hk.block g (lt_of_block h2) (fun e => by subst e; rw [hb] at h2; cases h2; exact hT rfl)]; exact h2
theorem RS.keepOwn {w w' : World} {b : Nat} {L : Value} {ts : List Tk} {s : St} {base n size : Nat} {e : TypeId} {v : Value} {xs : List Value} (h : RS w b L ts s) (hk : Keep b w w') (ho : w.ownsRow base e size v n xs) (he : (89 : TypeId) ≠ e) : w'.ownsRow base e size v n xs := by
  obtain ⟨a0, bad0, q1, _, _⟩ := h.st
  exact ownsRow_keep ho hk q1 he
theorem keep_self6 (w : World) (N : Nat) (x0 x1 x2 x3 x4 x5 : Value) : Keep N w ((((((w.setCell ⟨N, 0, none⟩ x0).setCell ⟨N, 1, none⟩ x1).setCell ⟨N, 2, none⟩ x2).setCell ⟨N, 3, none⟩ x3).setCell ⟨N, 4, none⟩ x4).setCell ⟨N, 5, none⟩ x5) :=
  ((((((Keep.refl N w).setCell 0 x0).setCell 1 x1).setCell 2 x2).setCell 3 x3).setCell 4 x4).setCell 5 x5
theorem RS.pos {w : World} {b : Nat} {L : Value} {ts : List Tk} {s : St} {k : Nat} (h : RS w b L ts s) (hk : k ≠ 0) (hs : isK s k = true) : 0 < ts.length := by
  obtain ⟨a, bad, h1, h2, h3⟩ := h.st
  cases bad with
  | true => rw [h3] at hs; rw [if_pos rfl, isK_none k hk] at hs; cases hs
  | false =>
    rcases Nat.eq_zero_or_pos ts.length with e | e
    · have : ts = [] := List.eq_nil_of_length_eq_zero e
      rw [h3, this] at hs
      simp only [List.drop_nil, Bool.false_eq_true, if_false] at hs
      rw [isK_end k hk] at hs; cases hs
    · exact e
theorem refToks_drop : ∀ (ts : List Tk) (a : Nat), refToks (ts.drop a) = (refToks ts).drop (a * 3)
  | ts, 0 => by simp
  | [], a + 1 => by simp [refToks]
  | t :: ts, a + 1 => by
    rw [List.drop_succ_cons, refToks_drop ts a, show (a + 1) * 3 = 3 + a * 3 by omega, ← List.drop_drop]
    rfl
theorem refToks_take : ∀ (ts : List Tk) (a : Nat), refToks (ts.take a) = (refToks ts).take (a * 3)
  | ts, 0 => by simp [refToks]
  | [], a + 1 => by simp [refToks]
  | t :: ts, a + 1 => by
    rw [List.take_succ_cons, show (a + 1) * 3 = a * 3 + 1 + 1 + 1 by omega]
    show refTok t ++ refToks (ts.take a) = _
    rw [refToks_take ts a]
    rfl
theorem toks_cut {cur : List Value} {ts : List Tk} {a5 a6 : Nat} (h : cur.take (ts.length * 3) = refToks ts) (h1 : a5 ≤ a6) (h2 : a6 ≤ ts.length) : (cur.drop (a5 * 3)).take ((a6 - a5) * 3) = refToks ((ts.drop a5).take (a6 - a5)) := by
  rw [refToks_take, refToks_drop, ← h, List.drop_take, List.take_take]
  congr 1
  omega
theorem RS.keepTok {w w' : World} {b : Nat} {L : Value} {ts : List Tk} {s : St} {v : Value} {l : List Tk} (h : RS w b L ts s) (hk : Keep b w w') (ho : TokSl w v l) : TokSl w' v l := by
  obtain ⟨a0, bad0, q1, _, _⟩ := h.st
  exact ho.keep hk q1 (by decide)

set_option maxHeartbeats 4000000 in
set_option maxRecDepth 100000 in
theorem object_any (w : World) (b : Nat) (L : Value) (ts : List Tk) (s : St) (h : RS w b L ts s) :
    Calls Tryz.prog 36 #[.pointer (some ⟨b, 0, none⟩)] w fun e w' => ∃ vF vA vR, e = .returned (.agg #[.int .i64 0, .string (rObject s).1.name, vF, vA, .bool (rObject s).1.ruled, vR]) ∧ w'.ownsRow w.heap.size 121 5 vF (rObject s).1.fields.length (fldsV (rObject s).1.fields) ∧ w'.ownsRow w.heap.size 9 1 vA (rObject s).1.above.length (strsV (rObject s).1.above) ∧ TokSl w' vR (rObject s).1.rule ∧ RS w' b L ts (rObject s).2 ∧ Keep b w w' := by
  obtain ⟨i0, hi, hz0, hz1, hz2⟩ := info_parts Tryz.info9
  have hlt := h.lt
  have hr0 : RS ((w.alloc (.cells #[.int .i64 0, .string ⟨#[]⟩, .slice none 0 0, .slice none 0 0, .bool false, .slice none 0 0] 96)).alloc (.cells #[.int .i64 0, .string ⟨#[]⟩, .slice none 0 0, .slice none 0 0, .bool false, .slice none 0 0] 96)) b L ts s := h.below (two_below _ _ _)
  have HR0 := hide (two_R w (.cells #[.int .i64 0, .string ⟨#[]⟩, .slice none 0 0, .slice none 0 0, .bool false, .slice none 0 0] 96) (.cells #[.int .i64 0, .string ⟨#[]⟩, .slice none 0 0, .slice none 0 0, .bool false, .slice none 0 0] 96))
  have HF0 := hide (two_F w (.cells #[.int .i64 0, .string ⟨#[]⟩, .slice none 0 0, .slice none 0 0, .bool false, .slice none 0 0] 96) (.cells #[.int .i64 0, .string ⟨#[]⟩, .slice none 0 0, .slice none 0 0, .bool false, .slice none 0 0] 96))
  have hK0 : Keep b w ((w.alloc (.cells #[.int .i64 0, .string ⟨#[]⟩, .slice none 0 0, .slice none 0 0, .bool false, .slice none 0 0] 96)).alloc (.cells #[.int .i64 0, .string ⟨#[]⟩, .slice none 0 0, .slice none 0 0, .bool false, .slice none 0 0] 96)) := Keep.of_below (two_below _ _ _)
  clear h
  go_enter Tryz.func36, Tryz.ntmps36
  go_wp2_with fail
  generalize (w.alloc (.cells #[.int .i64 0, .string ⟨#[]⟩, .slice none 0 0, .slice none 0 0, .bool false, .slice none 0 0] 96)).alloc (.cells #[.int .i64 0, .string ⟨#[]⟩, .slice none 0 0, .slice none 0 0, .bool false, .slice none 0 0] 96) = w0 at *
  refine (name_any w0 b L ts s hr0).mono ?_
  rintro e w1 ⟨rfl, hr1, hk1⟩
  have HF1 := hide (hk1.at HF0.out (by omega))
  have HR1 := hide (hk1.at HR0.out (by omega))
  have hK1 := hK0.trans hk1
  clear HF0 HR0 hK0 hr0 hk1
  have c0 : w1.cell? ⟨w.heap.size + 1, 1, none⟩ = some (.string ⟨#[]⟩) := cell_of_block HF1.out 1
  have cf := frozen_of_block HF1.out 1
  go_wp2_with fail
  have hr2 := hr1.set HF1.out (by decide) (by decide) 1 (.string (nm s))
  have HF2 := hide (show (w1.setCell ⟨w.heap.size + 1, 1, none⟩ (.string (nm s))).heap[w.heap.size + 1]? = some (.cells #[.int .i64 0, .string (nm s), .slice none 0 0, .slice none 0 0, .bool false, .slice none 0 0] 96 (0, 0)) from setCell_block HF1.out 1 _)
  have HR2 := hide (set_other_at HR1.out (show w.heap.size ≠ w.heap.size + 1 by omega) 1 (.string (nm s)))
  have hK2 := hK1.setNew ⟨w.heap.size + 1, 1, none⟩ (by simp) (.string (nm s))
  clear c0 cf HF1 HR1 hK1 hr1
  generalize w1.setCell ⟨w.heap.size + 1, 1, none⟩ (.string (nm s)) = w2 at *
  refine (mayW w2 b L ts (nmT s) ⟨#[105, 109, 112, 108, 101, 109, 101, 110, 116, 115]⟩ hr2).mono ?_
  rw [show isW (nmT s) ⟨#[105, 109, 112, 108, 101, 109, 101, 110, 116, 115]⟩ = isW (nmT s) bImpl from rfl]
  rintro e w3 ⟨rfl, hr3, hk3⟩
  have HF3 := hide (hk3.at HF2.out (by omega))
  have HR3 := hide (hk3.at HR2.out (by omega))
  have hK3 := hK2.trans hk3
  have hln := hr3.lnle
  clear HF2 HR2 hK2 hr2 hk3
  have H0 := hide (show rImp (nmT s) = if isW (nmT s) bImpl = true then rImpF 801 (tl (nmT s)) else ([], nmT s) from rfl)
  generalize isW (nmT s) bImpl = ok0 at *
  go_upto_block 0 with fail
  go_cut [4, 5, 6] (fun v4 v5 v6 wc => ∃ (abv : List ByteArray) (aA : Option Addr) (capA : Nat) (s2 : St), RS wc b L ts s2 ∧ wc.heap[w.heap.size + 1]? = some (.cells #[.int .i64 0, .string (nm s), .slice none 0 0, .slice aA abv.length capA, .bool false, .slice none 0 0] 96 (0, 0)) ∧ wc.heap[w.heap.size]? = some (.cells #[.int .i64 0, .string ⟨#[]⟩, .slice none 0 0, .slice none 0 0, .bool false, .slice none 0 0] 96) ∧ wc.ownsRow (w.heap.size + 2) 9 1 (.slice aA abv.length capA) abv.length (strsV abv) ∧ abv.length ≤ 801 ∧ Keep b w wc ∧ rImp (nmT s) = (abv, s2))
  case first =>
    go_wp2_with fail
    go_loopg [4, 5, 6] (ln (mayT (nmT s) ok0)) (fun k v4 v5 v6 wr => ∃ (ok : Bool) (inc : List ByteArray) (vI : Value) (s' : St), v4 = .bool ok ∧ ln s' ≤ k ∧ RS wr b L ts s' ∧ wr.heap[w.heap.size + 1]? = some (.cells #[.int .i64 0, .string (nm s), .slice none 0 0, vI, .bool false, .slice none 0 0] 96 (0, 0)) ∧ wr.heap[w.heap.size]? = some (.cells #[.int .i64 0, .string ⟨#[]⟩, .slice none 0 0, .slice none 0 0, .bool false, .slice none 0 0] 96) ∧ wr.ownsRow (w.heap.size + 2) 9 1 vI inc.length (strsV inc) ∧ inc.length + ln s' ≤ 801 ∧ Keep b w wr ∧ rImp (nmT s) = if ok = true then (inc ++ (rImpF (ln s') s').1, (rImpF (ln s') s').2) else (inc, s'))
    case atStart => exact ⟨ok0, [], _, _, rfl, Nat.le_refl _, hr3, HF3.out, HR3.out, World.ownsRow_nil _ _ _ _, by simpa using hln, hK3, by
      rw [H0.out]
      cases ok0
      · rfl
      · simp only [if_true, List.nil_append, mayT]; rw [rImpF_fuel 801 _ (by simpa [mayT] using hln)]⟩
    case round =>
      clear HF3 HR3 hK3 hr3 hln H0
      obtain ⟨ok, inc, vI, s', rfl, hlk, hr, hF, hR, hown, hil, hK, hrel⟩ := hrel
      have HF := hide hF
      have HR := hide hR
      have HM := hide hrel
      have c2 := hr.badc
      clear hrel hF hR
      obtain ⟨aI, capI, hvI⟩ := own_slice hown
      subst hvI
      cases ok
      · have HRES := hide (show rImp (nmT s) = (inc, s') from HM.out)
        go_wp2_with fail
        go_meet
        exact ⟨inc, aI, capI, s', hr, HF.out, HR.out, hown, by omega, hK, HRES.out⟩
      · cases hnn : s'.isNone
        · rw [hnn] at c2
          have hl1 := ln_nmT_lt s' hnn
          have HST := hide (rImpF_some s' hnn)
          clear hnn
          go_wp2_with fail
          refine (name_any wr b L ts s' hr).mono ?_
          rintro e wx ⟨rfl, hr2, hk1⟩
          have hF2 := hk1.at HF.out (by omega)
          have hR2 := hk1.at HR.out (by omega)
          have hK2 := hK.trans hk1
          have hown2 := hr.keepOwn hk1 hown (by decide)
          clear HF HR hK hr hk1 hown c2
          generalize nm s' = y at *
          generalize nmT s' = s1 at *
          have HF2 := hide hF2
          have HR2 := hide hR2
          have c1 : wx.cell? ⟨w.heap.size + 1, 3, none⟩ = some (.slice aI inc.length capI) := cell_of_block hF2 3
          have cf1 := frozen_of_block hF2 3
          have hne := own_ne hown2 hF2 (by decide)
          have hne2 := own_ne hown2 hR2 (by decide)
          have hap := hr2.apart hown2 (by decide) (by decide)
          have hlow := hown2.lt
          have hszc := lt_of_block hF2
          clear hF2 hR2
          go_wp2_with (at_builtin; refine wpList_append_own _ rfl _ _ 50 rfl (w.heap.size + 2) 9 i0 _ 1 16 Tryz.underlying50 hi hz0 hz1 hz2 rfl (by decide) _ _ _ rfl (hown2.alloc _) ⟨wx.heap.size, 0, none⟩ 1 1 [.string y] rfl rfl (cell_one_new _ _ _) (fun u hu => by simp at hu; subst hu; rfl) (by unfold maxLen; omega) (by omega) (by simp; omega) ?_; intro v' x3 hown' hgrow _; obtain ⟨a', cap', hv'⟩ := own_slice hown'; subst hv'; have hF3 := grown_at hgrow (show (wx.alloc _).heap[w.heap.size + 1]? = _ from (alloc_other _ _ _ hszc).trans HF2.out) hne; have hc3 := (cell_of_block hF3 3 : x3.cell? ⟨w.heap.size + 1, 3, none⟩ = some (.slice aI inc.length capI)); have hf3 := frozen_of_block hF3 3; have HF3 := hide hF3; clear hF3)
          have hr3 := hr2.grown1 hgrow hap
          have HR3 := hide (grown_at hgrow (show (wx.alloc _).heap[w.heap.size]? = _ from (alloc_other _ _ _ (by omega)).trans HR2.out) hne2)
          have hK3 : Keep b w x3 := (hK2.alloc _).grown hgrow (fun k hk => by have := (hlow k hk).1; omega)
          have hr4 := hr3.set HF3.out (by decide) (by decide) 3 (.slice a' (inc.length + 1) cap')
          have HF4 := hide (show (x3.setCell ⟨w.heap.size + 1, 3, none⟩ (.slice a' (inc.length + 1) cap')).heap[w.heap.size + 1]? = some (.cells #[.int .i64 0, .string (nm s), .slice none 0 0, (.slice a' (inc.length + 1) cap'), .bool false, .slice none 0 0] 96 (0, 0)) from setCell_block HF3.out 3 _)
          have HR4 := hide (set_other_at HR3.out (show w.heap.size ≠ w.heap.size + 1 by omega) 3 (.slice a' (inc.length + 1) cap'))
          have hK4 := hK3.setNew ⟨w.heap.size + 1, 3, none⟩ (by simp) (.slice a' (inc.length + 1) cap')
          have hown4 := ownsRow_keep hown' ((Keep.refl (w.heap.size + 1) x3).setCell 3 (.slice a' (inc.length + 1) cap')) HF3.out (by decide)
          clear hc3 hf3 HF3 HR3 hr3 hK3 hown' hgrow hK2 hown2 hr2 HF2 HR2 c1 cf1 hne hne2 hap hlow hszc
          generalize x3.setCell ⟨w.heap.size + 1, 3, none⟩ (.slice a' (inc.length + 1) cap') = x4 at *
          have HOK := hide (isK1_eq s1)
          have hp := peek_any x4 b L ts s1 hr4
          generalize rk (hd s1).k = k1 at *
          generalize rs (hd s1) = z at *
          generalize (hd s1).n = n1 at *
          refine hp.mono ?_
          clear hp
          rintro e x5 ⟨rfl, hb5⟩
          have hr6 := (hr4.below hb5).below ((Below.refl _ _).alloc (Nat.le_refl _) (.cells #[.int .i64 k1, .string z, .int .i64 n1] 137))
          have HF6 := hide ((alloc_other x5 (.cells #[.int .i64 k1, .string z, .int .i64 n1] 137) _ (by have := lt_of_block HF4.out; have := hb5.size; omega)).trans ((hb5.block _ (lt_of_block HF4.out)).trans HF4.out))
          have HR6 := hide ((alloc_other x5 (.cells #[.int .i64 k1, .string z, .int .i64 n1] 137) _ (by have := lt_of_block HR4.out; have := hb5.size; omega)).trans ((hb5.block _ (lt_of_block HR4.out)).trans HR4.out))
          have hK6 := (hK4.trans (Keep.of_below hb5)).alloc (.cells #[.int .i64 k1, .string z, .int .i64 n1] 137)
          have hown6 := (ownsRow_below hown4 hb5).alloc (.cells #[.int .i64 k1, .string z, .int .i64 n1] 137)
          have HL := hide (show rImp (nmT s) = if isK s1 1 = true then ((inc ++ [y]) ++ (rImpF (ln s1) s1).1, (rImpF (ln s1) s1).2) else (inc ++ [y], s1) from by
            rw [HM.out, HST.out]; simp only [if_true]; split <;> simp)
          clear hr4 HF4 HR4 hK4 hown4 hb5 HM HST
          by_cases e1 : k1 = 1
          · have t1 : ((k1 : Int) == 1) = true := by simp; omega
            have HO := hide (show isK s1 1 = true from by rw [HOK.out, e1]; rfl)
            clear e1
            go_wp2_with fail
            go_roundg (ln s1)
            case measure => omega
            case rel => exact ⟨true, inc ++ [y], _, s1, rfl, Nat.le_refl _, hr6, HF6.out, HR6.out, by simpa [strsV] using hown6, by simp; omega, hK6, by rw [HL.out, HO.out]⟩
          · have t1 : ((k1 : Int) == 1) = false := by simp; omega
            have HO := hide (show isK s1 1 = false from by rw [HOK.out, decide_eq_false e1])
            clear e1
            go_wp2_with fail
            go_roundg (ln s1)
            case measure => omega
            case rel => exact ⟨false, inc ++ [y], _, s1, rfl, Nat.le_refl _, hr6, HF6.out, HR6.out, by simpa [strsV] using hown6, by simp; omega, hK6, by rw [HL.out, HO.out]⟩
        · rw [hnn] at c2
          have HRES := hide (show rImp (nmT s) = (inc, s') from by rw [HM.out, rImpF_none s' hnn]; simp)
          clear hnn
          go_wp2_with fail
          go_meet
          exact ⟨inc, aI, capI, s', hr, HF.out, HR.out, hown, by omega, hK, HRES.out⟩
  case rest =>
    clear HF3 HR3 hK3 hr3 hln H0
    obtain ⟨abv, aA, capA, s2, hr, hF, hR, hown, hal, hK, himp⟩ := hcut
    have HIMP := hide himp
    have HF := hide hF
    have HR := hide hR
    clear himp hF hR
    go_wp2_with fail
    refine (mayM wc b L ts s2 11 ⟨#[64]⟩ rfl (by decide) (by decide) hr).mono ?_
    rintro e w1 ⟨rfl, hr1, hk1⟩
    have HF1 := hide (hk1.at HF.out (by omega))
    have HR1 := hide (hk1.at HR.out (by omega))
    have hK1 := hK.trans hk1
    have hown1 := hr.keepOwn hk1 hown (by decide)
    have HPOS := hide (show isK s2 11 = true → 0 < ts.length from fun h => hr.pos (by decide) h)
    clear HF HR hK hk1 hown hr
    have c0 : w1.cell? ⟨w.heap.size + 1, 4, none⟩ = some (.bool false) := cell_of_block HF1.out 4
    have cf := frozen_of_block HF1.out 4
    have hr2 := hr1.set HF1.out (by decide) (by decide) 4 (.bool (isK s2 11))
    have hF2 := (show (w1.setCell ⟨w.heap.size + 1, 4, none⟩ (.bool (isK s2 11))).heap[w.heap.size + 1]? = some (.cells #[.int .i64 0, .string (nm s), .slice none 0 0, .slice aA abv.length capA, .bool (isK s2 11), .slice none 0 0] 96 (0, 0)) from setCell_block HF1.out 4 _)
    have HF2 := hide hF2
    have c4 : (w1.setCell ⟨w.heap.size + 1, 4, none⟩ (.bool (isK s2 11))).cell? ⟨w.heap.size + 1, 4, none⟩ = some (.bool (isK s2 11)) := cell_of_block hF2 4
    have HR2 := hide (set_other_at HR1.out (show w.heap.size ≠ w.heap.size + 1 by omega) 4 (.bool (isK s2 11)))
    have hK2 := hK1.setNew ⟨w.heap.size + 1, 4, none⟩ (by simp) (.bool (isK s2 11))
    have hown2 := ownsRow_keep hown1 ((Keep.refl (w.heap.size + 1) w1).setCell 4 (.bool (isK s2 11))) HF1.out (by decide)
    clear HF1 HR1 hK1 hr1 hown1 hF2
    go_upto_if 39 with fail
    generalize w1.setCell ⟨w.heap.size + 1, 4, none⟩ (.bool (isK s2 11)) = w2 at *
    clear c0 cf c4
    go_cut [7] (fun v7 wd => ∃ (aR : Option Addr) (capR : Nat) (rl : List Tk) (s7 : St), RS wd b L ts s7 ∧ wd.heap[w.heap.size + 1]? = some (.cells #[.int .i64 0, .string (nm s), .slice none 0 0, .slice aA abv.length capA, .bool (isK s2 11), .slice aR rl.length capR] 96 (0, 0)) ∧ wd.heap[w.heap.size]? = some (.cells #[.int .i64 0, .string ⟨#[]⟩, .slice none 0 0, .slice none 0 0, .bool false, .slice none 0 0] 96) ∧ wd.ownsRow (w.heap.size + 2) 9 1 (.slice aA abv.length capA) abv.length (strsV abv) ∧ TokSl wd (.slice aR rl.length capR) rl ∧ Keep b w wd ∧ rRows s2 = (rl, s7))
    case first =>
      cases h11 : isK s2 11
      · rw [h11] at hr2
        have HX := hide (show rRows s2 = ([], s2) from by unfold rRows; rw [h11]; rfl)
        clear h11
        go_wp2_with fail
        go_meet
        exact ⟨none, 0, [], s2, hr2, HF2.out, HR2.out, hown2, Or.inl ⟨rfl, rfl⟩, hK2, HX.out⟩
      · rw [h11] at hr2
        have hr2 : RS w2 b L ts (tl s2) := hr2
        have HX := hide (show rRows s2 = (eaten (mustT (mustT (tl s2) (isW (tl s2) bRows)) (isK (mustT (tl s2) (isW (tl s2) bRows)) 7)) (rRule (mustT (mustT (tl s2) (isW (tl s2) bRows)) (isK (mustT (tl s2) (isW (tl s2) bRows)) 7))), mustT (rRule (mustT (mustT (tl s2) (isW (tl s2) bRows)) (isK (mustT (tl s2) (isW (tl s2) bRows)) 7))) (isK (rRule (mustT (mustT (tl s2) (isW (tl s2) bRows)) (isK (mustT (tl s2) (isW (tl s2) bRows)) 7))) 8)) from by unfold rRows; rw [if_pos h11])
        have HTL := hide (HPOS.out h11)
        clear h11
        go_wp2_with fail
        refine (mustW w2 b L ts (tl s2) ⟨#[114, 111, 119, 115]⟩ hr2).mono ?_
        rw [show isW (tl s2) ⟨#[114, 111, 119, 115]⟩ = isW (tl s2) bRows from rfl]
        rintro e x1 ⟨rfl, hr3, hk3⟩
        generalize mustT (tl s2) (isW (tl s2) bRows) = s4 at *
        go_wp2_with fail
        refine (mustM x1 b L ts s4 7 ⟨#[40]⟩ rfl (by decide) (by decide) hr3).mono ?_
        rintro e x2 ⟨rfl, hr4, hk4⟩
        generalize mustT s4 (isK s4 7) = s5 at *
        have HF4 := hide ((hk3.trans hk4).at HF2.out (by omega))
        have HR4 := hide ((hk3.trans hk4).at HR2.out (by omega))
        have hK4 := (hK2.trans hk3).trans hk4
        have hown4 := hr3.keepOwn hk4 (hr2.keepOwn hk3 hown2 (by decide)) (by decide)
        clear HF2 HR2 hK2 hown2 hr3 hr2 hk3 hk4
        obtain ⟨a5, bad5, q1, q2, q3⟩ := hr4.st
        have ca : x2.cell? ⟨b, 1, none⟩ = some (.int .i64 a5) := cell_of_block q1 1
        have Q3 := hide q3
        clear q1 q3
        go_wp2_with fail
        refine (ruled_any x2 b L ts s5 hr4).mono ?_
        rintro e x3 ⟨rfl, hr5, hk5⟩
        have hF5 := hk5.at HF4.out (by omega)
        have HF5 := hide hF5
        have HR5 := hide (hk5.at HR4.out (by omega))
        have hK5 := hK4.trans hk5
        have hown5 := hr4.keepOwn hk5 hown4 (by decide)
        have hle := ln_rRuleF 801 s5
        have HLE := hide (show ln (rRule s5) ≤ ln s5 from hle)
        clear HF4 HR4 hK4 hown4 hr4 hk5 ca hle
        generalize hs6 : rRule s5 = s6 at *
        have HS6 := hide hs6
        clear hs6
        have c2 := hr5.badc
        cases hnn : s6.isNone
        · rw [hnn] at c2
          obtain ⟨a6, bad6, p1, p2, p3⟩ := hr5.st
          have hb6 : bad6 = false := by cases bad6; rfl; rw [p3] at hnn; cases hnn
          subst hb6
          have e6 : s6 = some (ts.drop a6) := p3
          have hb5 : bad5 = false := by
            cases bad5
            · rfl
            · have : s5 = none := Q3.out
              have h9 := HLE.out
              rw [this, e6] at h9; simp [ln] at h9
          have e5 : s5 = some (ts.drop a5) := by rw [Q3.out, hb5]; rfl
          have hle : a5 ≤ a6 := by
            have h9 := HLE.out
            rw [e5, e6] at h9; simp [ln] at h9; omega
          have HEAT := hide (show eaten s5 s6 = (ts.drop a5).take (a6 - a5) from by
            rw [e5, e6]; simp only [eaten, List.length_drop]; congr 1; omega)
          have hlen := hr5.len
          have hrow := hr5.row
          have b0 := cell_of_block p1 0
          have b1 : x3.cell? ⟨b, 1, none⟩ = some (.int .i64 a6) := cell_of_block p1 1
          have g5 : x3.cell? ⟨w.heap.size + 1, 5, none⟩ = some (.slice none 0 0) := cell_of_block hF5 5
          have gf := frozen_of_block hF5 5
          have htl := HTL.out
          clear Q3 p1 p3 e5 e6 hnn HLE hb5 hF5
          rcases hrow.2 with ⟨hv, h0⟩ | ⟨g, cap, cur, hv, hg, hh, hn1, hn2, hn3, hn4⟩
          · omega
          · subst hv
            have b0 : x3.cell? ⟨b, 0, none⟩ = some (.slice (some ⟨g, 0, none⟩) ts.length cap) := b0
            have hrl : ((ts.drop a5).take (a6 - a5)).length = a6 - a5 := by simp; omega
            have HTC := hide (toks_cut hn4 hle p2)
            have HH := hide hh
            have hrw : ∀ v, RS ((x3.setCell ⟨w.heap.size + 1, 5, none⟩ v).drew) b (.slice (some ⟨g, 0, none⟩) ts.length cap) ts s6 := fun v => (hr5.set HF5.out (by decide) (by decide) 5 v).below (Below.refl _ _).drew
            have hFw : ∀ v, ((x3.setCell ⟨w.heap.size + 1, 5, none⟩ v).drew).heap[w.heap.size + 1]? = some (.cells #[.int .i64 0, .string (nm s), .slice none 0 0, .slice aA abv.length capA, .bool (isK s2 11), v] 96 (0, 0)) := fun v => setCell_block HF5.out 5 v
            have hRw : ∀ v, ((x3.setCell ⟨w.heap.size + 1, 5, none⟩ v).drew).heap[w.heap.size]? = some (.cells #[.int .i64 0, .string ⟨#[]⟩, .slice none 0 0, .slice none 0 0, .bool false, .slice none 0 0] 96) := fun v => set_other_at HR5.out (show w.heap.size ≠ w.heap.size + 1 by omega) 5 v
            have hKw : ∀ v, Keep b w ((x3.setCell ⟨w.heap.size + 1, 5, none⟩ v).drew) := fun v => (hK5.setNew ⟨w.heap.size + 1, 5, none⟩ (by simp) v).drew
            have hOw : ∀ v, ((x3.setCell ⟨w.heap.size + 1, 5, none⟩ v).drew).ownsRow (w.heap.size + 2) 9 1 (.slice aA abv.length capA) abv.length (strsV abv) := fun v => (ownsRow_keep hown5 ((Keep.refl (w.heap.size + 1) x3).setCell 5 v) HF5.out (by decide)).drew
            have hHw : ∀ v, ((x3.setCell ⟨w.heap.size + 1, 5, none⟩ v).drew).heap[g]? = some (.cells cur 137 (0, 0)) := fun v => set_other_at HH.out (fun e => by subst e; have := HF5.out; rw [HH.out] at this; cases this) 5 v
            have HW := hide (And.intro hrw (And.intro hFw (And.intro hRw (And.intro hKw (And.intro hOw hHw)))))
            clear hrw hFw hRw hKw hOw hHw hh hn4
            generalize hrl0 : (ts.drop a5).take (a6 - a5) = rl at *
            clear hrl0
            have fin : ∀ (aR : Option Addr) (capR : Nat) (wz : World), RS wz b (.slice (some ⟨g, 0, none⟩) ts.length cap) ts s6 → wz.heap[w.heap.size + 1]? = some (.cells #[.int .i64 0, .string (nm s), .slice none 0 0, .slice aA abv.length capA, .bool (isK s2 11), .slice aR rl.length capR] 96 (0, 0)) → wz.heap[w.heap.size]? = some (.cells #[.int .i64 0, .string ⟨#[]⟩, .slice none 0 0, .slice none 0 0, .bool false, .slice none 0 0] 96) → wz.ownsRow (w.heap.size + 2) 9 1 (.slice aA abv.length capA) abv.length (strsV abv) → TokSl wz (.slice aR rl.length capR) rl → Keep b w wz → ∀ (wy : World), RS wy b (.slice (some ⟨g, 0, none⟩) ts.length cap) ts (mustT s6 (isK s6 8)) → Keep b wz wy → ∃ (aR : Option Addr) (capR : Nat) (rl : List Tk) (s7 : St), RS wy b (.slice (some ⟨g, 0, none⟩) ts.length cap) ts s7 ∧ wy.heap[w.heap.size + 1]? = some (.cells #[.int .i64 0, .string (nm s), .slice none 0 0, .slice aA abv.length capA, .bool (isK s2 11), .slice aR rl.length capR] 96 (0, 0)) ∧ wy.heap[w.heap.size]? = some (.cells #[.int .i64 0, .string ⟨#[]⟩, .slice none 0 0, .slice none 0 0, .bool false, .slice none 0 0] 96) ∧ wy.ownsRow (w.heap.size + 2) 9 1 (.slice aA abv.length capA) abv.length (strsV abv) ∧ TokSl wy (.slice aR rl.length capR) rl ∧ Keep b w wy ∧ rRows s2 = (rl, s7) := by
              intro aR capR wz z1 z2 z3 z4 z5 z6 wy y1 y2
              exact ⟨aR, capR, rl, _, y1, y2.at z2 (by omega), y2.at z3 (by omega), z1.keepOwn y2 z4 (by decide), z1.keepTok y2 z5, z6.trans y2, by rw [HX.out, HEAT.out]⟩
            have FIN := hide fin
            clear fin HX HEAT HS6
            go_upto_region 16 with fail
            go_region
            all_goals (try go_wp2_with fail)
            · have hcap : cap = a5 := by assumption
              have hz : a6 - a5 = 0 := by omega
              have hw2 := HW.out
              obtain ⟨z1, z2, z3, z4, z5, z6⟩ := hw2
              have Z1 := z1 (.slice (some ⟨g, 0, none⟩) (a6 - a5) 0)
              have Z2 := z2 (.slice (some ⟨g, 0, none⟩) (a6 - a5) 0)
              have Z3 := z3 (.slice (some ⟨g, 0, none⟩) (a6 - a5) 0)
              have Z4 := z4 (.slice (some ⟨g, 0, none⟩) (a6 - a5) 0)
              have Z5 := z5 (.slice (some ⟨g, 0, none⟩) (a6 - a5) 0)
              have Z6 := z6 (.slice (some ⟨g, 0, none⟩) (a6 - a5) 0)
              clear z1 z2 z3 z4 z5 z6 HW
              generalize (x3.setCell ⟨w.heap.size + 1, 5, none⟩ (.slice (some ⟨g, 0, none⟩) (a6 - a5) 0)).drew = x4 at *
              refine (mustM x4 b _ ts s6 8 ⟨#[41]⟩ rfl (by decide) (by decide) Z1).mono ?_
              rintro e x5 ⟨rfl, hr6, hk6⟩
              have HM := hide (FIN.out (some ⟨g, 0, none⟩) 0 x4 Z1 (by rw [hrl]; exact Z2) Z3 Z5 (Or.inr ⟨g, 0, 0, cur, rfl, Z6, by rw [hrl, hz]; have : rl = [] := List.eq_nil_of_length_eq_zero (by omega); rw [this]; simp [refToks]⟩) Z4 x5 hr6 hk6)
              clear FIN Z1 Z2 Z3 Z4 Z5 Z6
              go_wp2_with fail
              go_meet
              exact HM.out
            · have hw2 := HW.out
              obtain ⟨z1, z2, z3, z4, z5, z6⟩ := hw2
              have Z1 := z1 (.slice (some ⟨g, a5 * 3, none⟩) (a6 - a5) (cap - a5))
              have Z2 := z2 (.slice (some ⟨g, a5 * 3, none⟩) (a6 - a5) (cap - a5))
              have Z3 := z3 (.slice (some ⟨g, a5 * 3, none⟩) (a6 - a5) (cap - a5))
              have Z4 := z4 (.slice (some ⟨g, a5 * 3, none⟩) (a6 - a5) (cap - a5))
              have Z5 := z5 (.slice (some ⟨g, a5 * 3, none⟩) (a6 - a5) (cap - a5))
              have Z6 := z6 (.slice (some ⟨g, a5 * 3, none⟩) (a6 - a5) (cap - a5))
              clear z1 z2 z3 z4 z5 z6 HW
              generalize (x3.setCell ⟨w.heap.size + 1, 5, none⟩ (.slice (some ⟨g, a5 * 3, none⟩) (a6 - a5) (cap - a5))).drew = x4 at *
              refine (mustM x4 b _ ts s6 8 ⟨#[41]⟩ rfl (by decide) (by decide) Z1).mono ?_
              rintro e x5 ⟨rfl, hr6, hk6⟩
              have HM := hide (FIN.out (some ⟨g, a5 * 3, none⟩) (cap - a5) x4 Z1 (by rw [hrl]; exact Z2) Z3 Z5 (Or.inr ⟨g, a5 * 3, cap - a5, cur, rfl, Z6, by rw [hrl]; exact HTC.out⟩) Z4 x5 hr6 hk6)
              clear FIN Z1 Z2 Z3 Z4 Z5 Z6
              go_wp2_with fail
              go_meet
              exact HM.out
        · rw [hnn] at c2
          have HEAT := hide (show eaten s5 s6 = [] from by match s5, s6, hnn with | none, none, _ => rfl | some l, none, _ => rfl)
          clear hnn HLE Q3 hF5
          go_wp2_with fail
          refine (mustM x3 b L ts s6 8 ⟨#[41]⟩ rfl (by decide) (by decide) hr5).mono ?_
          rintro e x4 ⟨rfl, hr6, hk6⟩
          have HF6 := hide (hk6.at HF5.out (by omega))
          have HR6 := hide (hk6.at HR5.out (by omega))
          have hK6 := hK5.trans hk6
          have hown6 := hr5.keepOwn hk6 hown5 (by decide)
          go_wp2_with fail
          go_meet
          exact ⟨none, 0, [], _, hr6, HF6.out, HR6.out, hown6, Or.inl ⟨rfl, rfl⟩, hK6, by rw [HX.out, HEAT.out]⟩
    case rest =>
      clear HF2 HR2 hK2 hr2 hown2
      obtain ⟨wd, hwd⟩ : ∃ wd, wd = wc := ⟨_, rfl⟩
      subst hwd
      obtain ⟨aR, capR, rl, s7, hr, hF, hR, hown, htk, hK, hrows⟩ := hcut
      have HRWS := hide hrows
      have HF := hide hF
      have HR := hide hR
      clear hrows hF hR
      go_wp2_with fail
      refine (fields_any wd b L ts s7 hr).mono ?_
      rintro e w5 ⟨vF, rfl, hfown, hfl, hr5, hk5⟩
      have hF5 := hk5.at HF.out (by omega)
      have HR5 := hide (hk5.at HR.out (by omega))
      have hK5 := hK.trans hk5
      have hown5 := hr.keepOwn hk5 hown (by decide)
      have htk5 := hr.keepTok hk5 htk
      have hfown5 := ownsRow_lower hfown (show w.heap.size ≤ wd.heap.size from hK.size)
      have HRES := hide (show rObject s = (⟨0, nm s, (rFields s7).1, abv, isK s2 11, rl⟩, (rFields s7).2) from by unfold rObject; simp only [HIMP.out, HRWS.out])
      clear HF HR hK hown htk hk5 hr hfown HIMP HRWS
      generalize (rFields s7).1 = fl at *
      generalize (rFields s7).2 = s8 at *
      generalize isK s2 11 = ru at *
      obtain ⟨aF, capF, hvF⟩ := own_slice hfown5
      subst hvF
      have g2 : w5.cell? ⟨w.heap.size + 1, 2, none⟩ = some (.slice none 0 0) := cell_of_block hF5 2
      have gf := frozen_of_block hF5 2
      have hF6 := (show (w5.setCell ⟨w.heap.size + 1, 2, none⟩ (.slice aF fl.length capF)).heap[w.heap.size + 1]? = some (.cells #[.int .i64 0, .string (nm s), .slice aF fl.length capF, .slice aA abv.length capA, .bool ru, .slice aR rl.length capR] 96 (0, 0)) from setCell_block hF5 2 _)
      have hR6 := set_other_at HR5.out (show w.heap.size ≠ w.heap.size + 1 by omega) 2 (.slice aF fl.length capF)
      have hr6 := hr5.set hF5 (by decide) (by decide) 2 (.slice aF fl.length capF)
      have hK6 := hK5.setNew ⟨w.heap.size + 1, 2, none⟩ (by simp) (.slice aF fl.length capF)
      have hown6 := ownsRow_keep hown5 ((Keep.refl (w.heap.size + 1) w5).setCell 2 (.slice aF fl.length capF)) hF5 (by decide)
      have hfown6 := ownsRow_keep hfown5 ((Keep.refl (w.heap.size + 1) w5).setCell 2 (.slice aF fl.length capF)) hF5 (by decide)
      have htk6 := htk5.keep ((Keep.refl (w.heap.size + 1) w5).setCell 2 (.slice aF fl.length capF)) hF5 (by decide)
      go_upto_region 19 with fail
      clear g2 gf hF5 HR5 hr5 hK5 hown5 hfown5 htk5
      generalize w5.setCell ⟨w.heap.size + 1, 2, none⟩ (.slice aF fl.length capF) = w6 at *
      have p0 : w6.cell? ⟨w.heap.size + 1, 0, none⟩ = some (.int .i64 0) := cell_of_block hF6 0
      have r0 : w6.cell? ⟨w.heap.size, 0, none⟩ = some (.int .i64 0) := cell_of_block hR6 0
      have p1 : w6.cell? ⟨w.heap.size + 1, 1, none⟩ = some (.string (nm s)) := cell_of_block hF6 1
      have r1 : w6.cell? ⟨w.heap.size, 1, none⟩ = some (.string ⟨#[]⟩) := cell_of_block hR6 1
      have p2 : w6.cell? ⟨w.heap.size + 1, 2, none⟩ = some (.slice aF fl.length capF) := cell_of_block hF6 2
      have r2 : w6.cell? ⟨w.heap.size, 2, none⟩ = some (.slice none 0 0) := cell_of_block hR6 2
      have p3 : w6.cell? ⟨w.heap.size + 1, 3, none⟩ = some (.slice aA abv.length capA) := cell_of_block hF6 3
      have r3 : w6.cell? ⟨w.heap.size, 3, none⟩ = some (.slice none 0 0) := cell_of_block hR6 3
      have p4 : w6.cell? ⟨w.heap.size + 1, 4, none⟩ = some (.bool ru) := cell_of_block hF6 4
      have r4 : w6.cell? ⟨w.heap.size, 4, none⟩ = some (.bool false) := cell_of_block hR6 4
      have p5 : w6.cell? ⟨w.heap.size + 1, 5, none⟩ = some (.slice aR rl.length capR) := cell_of_block hF6 5
      have r5 : w6.cell? ⟨w.heap.size, 5, none⟩ = some (.slice none 0 0) := cell_of_block hR6 5
      have rf : ∀ j, w6.frozen? ⟨w.heap.size, j, none⟩ = false := fun j => frozen_of_block hR6 j
      have HZ1 := hide (hr6.set6 hR6 (by decide) (by decide) (.int .i64 0) (.string (nm s)) (.slice aF fl.length capF) (.slice aA abv.length capA) (.bool ru) (.slice aR rl.length capR))
      have HZ2 := hide (keep_set6 hK6 (Nat.le_refl _) (.int .i64 0) (.string (nm s)) (.slice aF fl.length capF) (.slice aA abv.length capA) (.bool ru) (.slice aR rl.length capR))
      have HZ3 := hide (ownsRow_set6 hown6 hR6 (by decide) (.int .i64 0) (.string (nm s)) (.slice aF fl.length capF) (.slice aA abv.length capA) (.bool ru) (.slice aR rl.length capR))
      have HZ4 := hide (ownsRow_set6 hfown6 hR6 (by decide) (.int .i64 0) (.string (nm s)) (.slice aF fl.length capF) (.slice aA abv.length capA) (.bool ru) (.slice aR rl.length capR))
      have HZ5 := hide (htk6.keep (keep_self6 w6 w.heap.size (.int .i64 0) (.string (nm s)) (.slice aF fl.length capF) (.slice aA abv.length capA) (.bool ru) (.slice aR rl.length capR)) hR6 (by decide))
      clear hF6 hR6
      go_wp2_with fail
      refine bodyPost_ret (v := .agg #[.int .i64 0, .string (nm s), .slice aF fl.length capF, .slice aA abv.length capA, .bool ru, .slice aR rl.length capR]) (by simp [results, Tryz.results36, go_sem, r0, r1, r2, r3, r4, r5]) rfl ⟨_, _, _, by rw [HRES.out], ?_, ?_, ?_, ?_, HZ2.out⟩
      · rw [HRES.out]; exact HZ4.out
      · rw [HRES.out]; exact ownsRow_lower HZ3.out (by omega)
      · rw [HRES.out]; exact HZ5.out
      · rw [HRES.out]; exact HZ1.out
end Go.Proofs.YtpggfgjongkihaaGreat
