/- The reference's checks: defRight. The reference's checks: right. -/
import Derived.Test.YtpggfgjongkihaaGreatM12
import Derived.Test.YtpggfgjongkihaaGreatM11
import Derived.BigQuiet
namespace Go.Proofs.YtpggfgjongkihaaGreat
open Go.RowKit
def undR (s : ByteArray) : Bool := decide (s.data.toList.take 2 = [95, 95])
def argR (f : RFld) : Bool := !((decide (f.arg = bId) && (isLs f.ty || scalB (coreS f.ty))) || (decide (f.arg = bFirst) && !isLs f.ty))
def fldR (roles : List RRole) (names : List ByteArray) (f : RFld) : Bool := !undR f.name && (knownB roles f.auth && (knownB roles f.hide_ && ((scalB (coreS f.ty) || decide (¬ idxI names (coreS f.ty) < 0)) && argR f)))
def rfEq (f g : RFld) : Bool := decide (f.name = g.name) && (decide (f.arg = g.arg) && (decide (f.ty = g.ty) && (decide (f.auth = g.auth) && decide (f.hide_ = g.hide_))))
def sameR (l : List RFld) (g : RFld) : Bool := if idxI (l.map RFld.name) g.name < 0 then false else match l[(idxI (l.map RFld.name) g.name).toNat]? with
  | some f => rfEq f g
  | none => false
def abvR (defs : List RDef) (d : RDef) (a : ByteArray) : Bool := if idxI (defs.map RDef.name) a < 0 then false else match defs[(idxI (defs.map RDef.name) a).toNat]? with
  | some t => if d.sort = 2 then decide (t.sort = 0) else decide (t.sort = 1) && t.fields.all (sameR d.fields)
  | none => false
def defR (roles : List RRole) (defs : List RDef) (d : RDef) : Bool := d.fields.all (fldR roles (defs.map RDef.name)) && ((apartB (d.fields.map RFld.name) && apartB d.above) && (d.above.all (abvR defs d) && (rl d.rule).all (leafR (roles.map RRole.name) d.fields)))
/-- what a definition that was read keeps to -/
structure okDef (d : RDef) : Prop where
  sort : d.sort ≤ 2
  tys : ∀ f ∈ d.fields, 0 < f.ty.size ∧ f.ty.size ≤ 100000
  nf : d.fields.length ≤ 801
  na : d.above.length ≤ 801
  nr : d.rule.length ≤ 801
  tok : ∀ t ∈ d.rule, okT t
  rul : rlOk d.rule = true
structure DefAt (w : World) (d : RDef) (vF vA vR : Value) : Prop where
  f : FldsAt w vF d.fields
  a : StrsAt w vA d.above
  r : TokSl w vR d.rule
theorem DefAt.below {w w' : World} {d : RDef} {vF vA vR : Value} (h : DefAt w d vF vA vR) (hb : Below w.heap.size w w') : DefAt w' d vF vA vR := ⟨h.f.below hb, h.a.below hb, h.r.below hb⟩
theorem DefsAt.at {w : World} {a : Option Addr} {cap i : Nat} {l : List RDef} {d : RDef} (h : DefsAt w (.slice a l.length cap) l) (hi : l[i]? = some d) : ∃ g aF cF aA cA aT cT, a = some ⟨g, 0, none⟩ ∧ w.cell? ⟨g, i * 6, none⟩ = some (.int .i64 d.sort) ∧ w.cell? ⟨g, i * 6 + 1, none⟩ = some (.string d.name) ∧ w.cell? ⟨g, i * 6 + 2, none⟩ = some (.slice aF d.fields.length cF) ∧ w.cell? ⟨g, i * 6 + 3, none⟩ = some (.slice aA d.above.length cA) ∧ w.cell? ⟨g, i * 6 + 4, none⟩ = some (.bool d.ruled) ∧ w.cell? ⟨g, i * 6 + 5, none⟩ = some (.slice aT d.rule.length cT) ∧ DefAt w d (.slice aF d.fields.length cF) (.slice aA d.above.length cA) (.slice aT d.rule.length cT) := by
  obtain ⟨a', cap', e1, h3⟩ := h
  cases e1
  rcases h3 with e | ⟨g, e, h4⟩
  · rw [e] at hi; simp at hi
  · obtain ⟨c0, c1, c4, vF, vA, vR, c2, c3, c5, hF, hA, hR⟩ := h4 i d hi
    have hF0 := hF
    have hA0 := hA
    obtain ⟨aF, cF, rfl, _⟩ := hF
    obtain ⟨aA, cA, rfl, _⟩ := hA
    obtain ⟨aT, cT, rfl⟩ := hR.slice
    exact ⟨g, aF, cF, aA, cA, aT, cT, e, c0, c1, c2, c3, c4, c5, hF0, hA0, hR⟩
theorem all_take_false {α : Type} (p : α → Bool) (l : List α) (j : Nat) (h : (l.take j).all p = false) : l.all p = false := by
  cases hh : l.all p
  · rfl
  · rw [List.all_eq_true] at hh
    have : (l.take j).all p = true := by rw [List.all_eq_true]; intro x hx; exact hh x (List.mem_of_mem_take hx)
    rw [this] at h; cases h
theorem abvR_neg {defs : List RDef} {d : RDef} {a : ByteArray} (h : idxI (defs.map RDef.name) a < 0) : abvR defs d a = false := by unfold abvR; rw [if_pos h]
theorem abvR_at {defs : List RDef} {d t : RDef} {a : ByteArray} {k : Nat} (h : idxI (defs.map RDef.name) a = k) (ht : defs[k]? = some t) : abvR defs d a = if d.sort = 2 then decide (t.sort = 0) else decide (t.sort = 1) && t.fields.all (sameR d.fields) := by
  unfold abvR; rw [if_neg (by omega), h, Int.toNat_natCast, ht]
theorem sameR_neg {l : List RFld} {g : RFld} (h : idxI (l.map RFld.name) g.name < 0) : sameR l g = false := by unfold sameR; rw [if_pos h]
theorem sameR_at {l : List RFld} {g f : RFld} {k : Nat} (h : idxI (l.map RFld.name) g.name = k) (hf : l[k]? = some f) : sameR l g = rfEq f g := by
  unfold sameR; rw [if_neg (by omega), h, Int.toNat_natCast, hf]
theorem rfEq_eq (f g : RFld) : rfEq f g = ((f.name.toList == g.name.toList) && ((f.arg.toList == g.arg.toList) && ((f.ty.toList == g.ty.toList) && ((f.auth.toList == g.auth.toList) && (f.hide_.toList == g.hide_.toList))))) := by
  unfold rfEq
  rw [beq_bytes, beq_bytes, beq_bytes, beq_bytes, beq_bytes]
theorem one_at (w : World) (o : Obj) : (w.alloc o).heap[w.heap.size]? = some o := heap_alloc_new w o
theorem one_size (w : World) (o : Obj) : (w.alloc o).heap.size = w.heap.size + 1 := by simp
theorem und_eq (n : ByteArray) (_h : 2 ≤ n.size) : ((n.extract 0 2).toList == [95, 95]) = undR n := by
  rw [Lib.toList_data, ext_take]
  unfold undR
  rw [Bool.eq_iff_iff]
  simp
theorem und_short (n : ByteArray) (h : ¬ 2 ≤ n.size) : undR n = false := by
  unfold undR
  apply decide_eq_false
  intro e
  have := congrArg List.length e
  rw [List.length_take] at this
  simp at this
  exact h (by have : n.data.size = n.size := rfl; omega)
theorem defR_fld {roles : List RRole} {defs : List RDef} {d : RDef} {i : Nat} {f : RFld} (hx : d.fields[i]? = some f) (h : fldR roles (defs.map RDef.name) f = false) : defR roles defs d = false := by
  unfold defR; rw [all_false _ _ _ _ hx h, Bool.false_and]
set_option maxHeartbeats 4000000 in
set_option maxRecDepth 100000 in
theorem defRight_any (vX vY vF vA vR : Value) (roles : List RRole) (defs : List RDef) (d : RDef) (w : World)
    (hR : RolesAt w vX roles) (hD : DefsAt w vY defs) (hd : DefAt w d vF vA vR) (hok : okDef d) (hoks : ∀ x ∈ defs, okDef x) (hlR : roles.length ≤ 801) (hlD : defs.length ≤ 801) :
    Calls Tryz.prog 76 #[.agg #[vX, vY], .agg #[.int .i64 d.sort, .string d.name, vF, vA, .bool d.ruled, vR]] w fun e w' => e = .returned (.bool (defR roles defs d)) ∧ Below w.heap.size w w' := by
  have HR := hide hR
  have HD := hide hD
  have Hd := hide hd
  have HOK := hide hok
  have HOKS := hide hoks
  obtain ⟨aX, cX, rfl, _⟩ := hR
  obtain ⟨aY, cY, rfl, _⟩ := hD
  obtain ⟨⟨aF, cF, rfl, _⟩, ⟨aA, cA, rfl, _⟩, hdr⟩ := hd
  obtain ⟨aT, cT, rfl⟩ := hdr.slice
  clear hdr hok hoks
  obtain ⟨i0, hi, hz0, hz1, hz2⟩ := info_parts Tryz.info9
  have hq78 := eql78
  have hg78 := Tryz.eg78
  generalize hq : defR roles defs d = q
  have HQ := hide hq
  clear hq
  have hnf := HOK.out.nf
  have hna := HOK.out.na
  have hso := HOK.out.sort
  have HW0 := hide (show ∃ W, W = ((w.alloc (.cells #[.slice aX roles.length cX, .slice aY defs.length cY] 62)).alloc (.cells #[.int .i64 d.sort, .string d.name, .slice aF d.fields.length cF, .slice aA d.above.length cA, .bool d.ruled, .slice aT d.rule.length cT] 96)) from ⟨_, rfl⟩)
  go_enter Tryz.func76, Tryz.ntmps76
  go_wp2_with fail
  go_loopg [5, 6, 7, 8, 9, 10, 11, 12] d.fields.length (fun k v5 v6 v7 v8 v9 v10 v11 v12 wr => ∃ i : Nat, v6 = .int .i64 i ∧ i ≤ d.fields.length ∧ d.fields.length - i ≤ k ∧ wr.ownsRow (w.heap.size + 2) 9 1 v5 i (strsV ((d.fields.map RFld.name).take i)) ∧ Below (w.heap.size + 2) ((w.alloc (.cells #[.slice aX roles.length cX, .slice aY defs.length cY] 62)).alloc (.cells #[.int .i64 d.sort, .string d.name, .slice aF d.fields.length cF, .slice aA d.above.length cA, .bool d.ruled, .slice aT d.rule.length cT] 96)) wr ∧ (d.fields.take i).all (fldR roles (defs.map RDef.name)) = true)
  case atStart => exact ⟨0, rfl, Nat.zero_le _, Nat.le_refl _, World.ownsRow_nil _ _ _ _, Below.refl _ _, by simp⟩
  case round =>
    obtain ⟨i, rfl, hil, hik, hown, hbel, hall⟩ := hrel
    have HALL := hide hall
    clear hall
    obtain ⟨aL, capL, hvL⟩ := own_slice hown
    subst hvL
    have cd2 : wr.cell? ⟨w.heap.size + 1, 2, none⟩ = some (.slice aF d.fields.length cF) := by rw [hbel.cell (by simp)]; exact cell_of_block (two_F _ _ _) 2
    have hlow : Below w.heap.size w wr := (two_below w _ _).trans (hbel.mono (by omega))
    have hszr : w.heap.size + 2 ≤ wr.heap.size := by have := hbel.size; simp at this; omega
    by_cases hlt : i < d.fields.length
    · have hx := List.getElem?_eq_getElem hlt
      generalize d.fields[i] = f at *
      obtain ⟨gF, ha, f0, f1, f2, f3, f4⟩ := (Hd.out.f.below hlow).at hx
      subst ha
      have hfz := HOK.out.tys f (List.mem_of_getElem? hx)
      obtain ⟨hz3, hz4⟩ := hfz
      have HX := hide hx
      clear hx
      have hlt2 : i + 1 ≤ d.fields.length := hlt
      go_upto_region 6 with fail
      have HF1 := hide (show (wr.alloc (.cells #[.string f.name, .string f.arg, .string f.ty, .string f.auth, .string f.hide_] 121)).heap[wr.heap.size]? = some (.cells #[.string f.name, .string f.arg, .string f.ty, .string f.auth, .string f.hide_] 121 (0, 0)) from one_at _ _)
      have hbel1 := hbel.alloc hszr (.cells #[.string f.name, .string f.arg, .string f.ty, .string f.auth, .string f.hide_] 121)
      have hown1 := hown.alloc (.cells #[.string f.name, .string f.arg, .string f.ty, .string f.auth, .string f.hide_] 121)
      have hsz1 : wr.heap.size + 1 ≤ (wr.alloc (.cells #[.string f.name, .string f.arg, .string f.ty, .string f.auth, .string f.hide_] 121)).heap.size := Nat.le_of_eq (one_size _ _).symm
      have hlow1 : Below w.heap.size w (wr.alloc (.cells #[.string f.name, .string f.arg, .string f.ty, .string f.auth, .string f.hide_] 121)) := hlow.alloc hlow.size _
      clear f0 f1 f2 f3 f4 cd2 hbel hown hlow
      generalize wr.alloc (.cells #[.string f.name, .string f.arg, .string f.ty, .string f.auth, .string f.hide_] 121) = w1 at *
      have c0 : w1.cell? ⟨wr.heap.size, 0, none⟩ = some (.string f.name) := cell_of_block HF1.out 0
      have hne := own_ne hown1 HF1.out (by decide)
      have hgl : ∀ k, (Value.slice aL i capL).ownBlock = some k → w.heap.size + 2 ≤ k := fun k hk => (hown1.lt k hk).1
      go_wp2_with (at_builtin; refine wpList_append_own _ rfl _ _ 50 rfl (w.heap.size + 2) 9 i0 _ 1 16 Tryz.underlying50 hi hz0 hz1 hz2 rfl (by decide) _ _ _ rfl (hown1.alloc _) ⟨w1.heap.size, 0, none⟩ 1 1 [.string f.name] rfl rfl (cell_one_new _ _ _) (fun u hu => by simp at hu; subst hu; rfl) (by unfold maxLen; omega) (by omega) (by simp; omega) ?_; intro v' x3 hown' hgrow _; have hF3 := grown_at hgrow (show (w1.alloc _).heap[wr.heap.size]? = _ from (alloc_other _ _ _ (by omega)).trans HF1.out) hne; have c2 := (cell_of_block hF3 2 : x3.cell? ⟨wr.heap.size, 2, none⟩ = some (.string f.ty)); have HF3 := hide hF3; clear hF3)
      have hbel3 : Below (w.heap.size + 2) ((w.alloc (.cells #[.slice aX roles.length cX, .slice aY defs.length cY] 62)).alloc (.cells #[.int .i64 d.sort, .string d.name, .slice (some ⟨gF, 0, none⟩) d.fields.length cF, .slice aA d.above.length cA, .bool d.ruled, .slice aT d.rule.length cT] 96)) x3 := Below.grown (hbel1.alloc (by omega) _) hgrow (by simp; omega) hgl
      have hown3 : x3.ownsRow (w.heap.size + 2) 9 1 v' (i + 1) (strsV ((d.fields.map RFld.name).take (i + 1))) := by
        rw [List.take_add_one, List.getElem?_map, HX.out]
        simpa [strsV] using hown'
      have hlow3 : Below w.heap.size w x3 := (two_below w _ _).trans (hbel3.mono (by omega))
      clear hown' hgrow hne hgl HF1 hown1 hbel1 hlow1 c0
      have hsz3 := lt_of_block HF3.out
      refine (core_any f.ty x3 hz4).mono ?_
      rintro e w' ⟨rfl, hw'⟩
      have hw' := hw'.symm
      subst hw'
      generalize hcty : coreS f.ty = cty at *
      have HCTY := hide hcty
      clear hcty
      go_wp2_with fail
      refine (scalar_any cty x3).mono ?_
      rintro e w' ⟨rfl, hw'⟩
      have hw' := hw'.symm
      subst hw'
      have c3 : x3.cell? ⟨wr.heap.size, 3, none⟩ = some (.string f.auth) := cell_of_block HF3.out 3
      have cx0 : x3.cell? ⟨w.heap.size, 0, none⟩ = some (.slice aX roles.length cX) := by rw [hbel3.cell (by simp)]; exact cell_of_block (two_R _ _ _) 0
      have cx1 : x3.cell? ⟨w.heap.size, 1, none⟩ = some (.slice aY defs.length cY) := by rw [hbel3.cell (by simp)]; exact cell_of_block (two_R _ _ _) 1
      have hk := known_any aY defs.length cY _ f.auth roles x3 (HR.out.below hlow3) (by omega)
      generalize hs1 : scalB cty = s1 at *
      generalize hka : knownB roles f.auth = ka at *
      have HS1 := hide hs1
      have HKA := hide hka
      clear hs1 hka
      go_wp2_with fail
      refine hk.mono ?_
      clear hk
      rintro e w4 ⟨rfl, hb4⟩
      have hbel4 := hbel3.trans (hb4.mono (by omega))
      have hlow4 := hlow3.trans (hb4.mono hlow3.size)
      have HF4 := hide ((hb4.block _ (lt_of_block HF3.out)).trans HF3.out)
      have hown4 := ownsRow_below hown3 hb4
      have hsz4 := hb4.size
      clear c2 c3 cx0 cx1 hbel3 hlow3 hown3 hb4 HF3
      have c4 : w4.cell? ⟨wr.heap.size, 4, none⟩ = some (.string f.hide_) := cell_of_block HF4.out 4
      have cx0 : w4.cell? ⟨w.heap.size, 0, none⟩ = some (.slice aX roles.length cX) := by rw [hbel4.cell (by simp)]; exact cell_of_block (two_R _ _ _) 0
      have cx1 : w4.cell? ⟨w.heap.size, 1, none⟩ = some (.slice aY defs.length cY) := by rw [hbel4.cell (by simp)]; exact cell_of_block (two_R _ _ _) 1
      have hk := known_any aY defs.length cY _ f.hide_ roles w4 (HR.out.below hlow4) (by omega)
      generalize hkb : knownB roles f.hide_ = kb at *
      have HKB := hide hkb
      clear hkb
      go_wp2_with fail
      refine hk.mono ?_
      clear hk
      rintro e w5 ⟨rfl, hb5⟩
      have hbel5 := hbel4.trans (hb5.mono (by omega))
      have hlow5 := hlow4.trans (hb5.mono hlow4.size)
      have HF5 := hide ((hb5.block _ (lt_of_block HF4.out)).trans HF4.out)
      have hown5 := ownsRow_below hown4 hb5
      have hsz5 := hb5.size
      clear c4 cx0 cx1 hbel4 hlow4 hown4 hb5 HF4
      have c0 : w5.cell? ⟨wr.heap.size, 0, none⟩ = some (.string f.name) := cell_of_block HF5.out 0
      have c1 : w5.cell? ⟨wr.heap.size, 1, none⟩ = some (.string f.arg) := cell_of_block HF5.out 1
      have c2 : w5.cell? ⟨wr.heap.size, 2, none⟩ = some (.string f.ty) := cell_of_block HF5.out 2
      have cx0 : w5.cell? ⟨w.heap.size, 0, none⟩ = some (.slice aX roles.length cX) := by rw [hbel5.cell (by simp)]; exact cell_of_block (two_R _ _ _) 0
      have cx1 : w5.cell? ⟨w.heap.size, 1, none⟩ = some (.slice aY defs.length cY) := by rw [hbel5.cell (by simp)]; exact cell_of_block (two_R _ _ _) 1
      have HFR := hide (show fldR roles (defs.map RDef.name) f = (!undR f.name && (ka && (kb && ((s1 || decide (¬ idxI (defs.map RDef.name) cty < 0)) && argR f)))) from by
        unfold fldR; rw [HKA.out, HKB.out, HCTY.out, HS1.out])
      have HAR := hide (show argR f = !(((f.arg.toList == [105, 100]) && (((f.ty[0].toNat : Int) == 91) || s1)) || ((f.arg.toList == [102, 105, 114, 115, 116]) && !((f.ty[0].toNat : Int) == 91))) from by
        unfold argR; rw [beq_lit, beq_lit, isLs_eq _ hz3, HCTY.out, HS1.out]; rfl)
      have HDEF := hide (def_any aX roles.length cX _ cty (defs.map RDef.name) w5 ((HD.out.below hlow5).names) (by simp; omega))
      go_upto_region 12 with fail
      generalize hkk : idxI (defs.map RDef.name) cty = kk at *
      have HKK := hide hkk
      clear hkk
      generalize hund : undR f.name = ud at *
      have HUD := hide hund
      clear hund
      go_cut [82] (fun v82 wc => v82 = .bool (ud || (!ka || (!kb || (!s1 && decide (kk < 0))))) ∧ Below w5.heap.size w5 wc)
      case first =>
        by_cases hn2 : 2 ≤ f.name.size
        · cases hu : ((f.name.extract 0 2).toList == [95, 95])
          · have HU := hide (show ud = false from by rw [← HUD.out, ← und_eq _ hn2, hu])
            cases ka
            · go_wp2_with fail
              go_meet
              exact ⟨by rw [HU.out]; rfl, Below.refl _ _⟩
            · cases kb
              · go_wp2_with fail
                go_meet
                exact ⟨by rw [HU.out]; rfl, Below.refl _ _⟩
              · cases s1
                · go_wp2_with fail
                  refine HDEF.out.mono ?_
                  rintro e w6 ⟨rfl, hb6⟩
                  go_wp2_with fail
                  go_meet
                  exact ⟨by rw [HU.out]; simp, hb6⟩
                · go_wp2_with fail
                  go_meet
                  exact ⟨by rw [HU.out]; rfl, Below.refl _ _⟩
          · have HU := hide (show ud = true from by rw [← HUD.out, ← und_eq _ hn2, hu])
            go_wp2_with fail
            go_meet
            exact ⟨by rw [HU.out]; rfl, Below.refl _ _⟩
        · have HU := hide (show ud = false from by rw [← HUD.out, und_short _ hn2])
          cases ka
          · go_wp2_with fail
            go_meet
            exact ⟨by rw [HU.out]; rfl, Below.refl _ _⟩
          · cases kb
            · go_wp2_with fail
              go_meet
              exact ⟨by rw [HU.out]; rfl, Below.refl _ _⟩
            · cases s1
              · go_wp2_with fail
                refine HDEF.out.mono ?_
                rintro e w6 ⟨rfl, hb6⟩
                go_wp2_with fail
                go_meet
                exact ⟨by rw [HU.out]; simp, hb6⟩
              · go_wp2_with fail
                go_meet
                exact ⟨by rw [HU.out]; rfl, Below.refl _ _⟩
      case rest =>
        obtain ⟨rfl, hbc⟩ := hcut
        have hbelc := hbel5.trans (hbc.mono (by omega))
        have hlowc := hlow5.trans (hbc.mono hlow5.size)
        have HFc := hide ((hbc.block _ (lt_of_block HF5.out)).trans HF5.out)
        have hownc := ownsRow_below hown5 hbc
        clear c0 c1 c2 cx0 cx1 hbel5 hlow5 hown5 HF5 HDEF
        have c1 : wc.cell? ⟨wr.heap.size, 1, none⟩ = some (.string f.arg) := cell_of_block HFc.out 1
        cases hB : (ud || (!ka || (!kb || (!s1 && decide (kk < 0)))))
        · have HFR2 := hide (show fldR roles (defs.map RDef.name) f = argR f from by
            rw [HFR.out]
            by_cases hn : kk < 0
            · rw [decide_eq_true hn] at hB
              first | rw [decide_eq_false (show ¬ 0 ≤ kk by omega)] | rw [decide_eq_false (show ¬ ¬ kk < 0 from fun h => h hn)]
              revert hB; cases ud <;> cases ka <;> cases kb <;> cases s1 <;> simp
            · rw [decide_eq_false hn] at hB
              first | rw [decide_eq_true (show 0 ≤ kk by omega)] | rw [decide_eq_true (show ¬ kk < 0 from hn)]
              revert hB; cases ud <;> cases ka <;> cases kb <;> cases s1 <;> simp)
          clear HFR hB
          cases hE1 : (f.arg.toList == [105, 100])
          · cases hE2 : (f.arg.toList == [102, 105, 114, 115, 116])
            · have HT := hide (show fldR roles (defs.map RDef.name) f = true from by rw [HFR2.out, HAR.out, hE1, hE2]; rfl)
              go_wp2_with fail
              go_roundg (d.fields.length - (i + 1))
              case measure => omega
              case rel => exact ⟨i + 1, by go_num, hlt2, Nat.le_refl _, hownc, hbelc, all_take_snoc _ _ _ _ HALL.out HX.out HT.out⟩
            · cases h91 : ((f.ty[0].toNat : Int) == 91)
              · have HQF := hide (show q = false from by rw [← HQ.out]; exact defR_fld HX.out (by rw [HFR2.out, HAR.out, hE1, hE2, h91]; rfl))
                go_wp2_with fail
                go_ret
                exact ⟨ret_bool (by rw [HQF.out]), hlowc⟩
              · have HT := hide (show fldR roles (defs.map RDef.name) f = true from by rw [HFR2.out, HAR.out, hE1, hE2, h91]; rfl)
                go_wp2_with fail
                go_roundg (d.fields.length - (i + 1))
                case measure => omega
                case rel => exact ⟨i + 1, by go_num, hlt2, Nat.le_refl _, hownc, hbelc, all_take_snoc _ _ _ _ HALL.out HX.out HT.out⟩
          · have hE2 : (f.arg.toList == [102, 105, 114, 115, 116]) = false := by
              rw [beq_lit] at hE1 ⊢
              rw [of_decide_eq_true hE1]; decide
            cases h91 : ((f.ty[0].toNat : Int) == 91)
            · cases s1
              · have HT := hide (show fldR roles (defs.map RDef.name) f = true from by rw [HFR2.out, HAR.out, hE1, hE2, h91]; rfl)
                go_wp2_with fail
                go_roundg (d.fields.length - (i + 1))
                case measure => omega
                case rel => exact ⟨i + 1, by go_num, hlt2, Nat.le_refl _, hownc, hbelc, all_take_snoc _ _ _ _ HALL.out HX.out HT.out⟩
              · have HQF := hide (show q = false from by rw [← HQ.out]; exact defR_fld HX.out (by rw [HFR2.out, HAR.out, hE1, h91]; rfl))
                go_wp2_with fail
                go_ret
                exact ⟨ret_bool (by rw [HQF.out]), hlowc⟩
            · have HQF := hide (show q = false from by rw [← HQ.out]; exact defR_fld HX.out (by rw [HFR2.out, HAR.out, hE1, h91]; rfl))
              go_wp2_with fail
              go_ret
              exact ⟨ret_bool (by rw [HQF.out]), hlowc⟩
        · have HQF := hide (show q = false from by
            rw [← HQ.out]
            refine defR_fld HX.out ?_
            rw [HFR.out]
            by_cases hn : kk < 0
            · rw [decide_eq_true hn] at hB
              first | rw [decide_eq_false (show ¬ 0 ≤ kk by omega)] | rw [decide_eq_false (show ¬ ¬ kk < 0 from fun h => h hn)]
              revert hB; cases ud <;> cases ka <;> cases kb <;> cases s1 <;> simp
            · rw [decide_eq_false hn] at hB
              first | rw [decide_eq_true (show 0 ≤ kk by omega)] | rw [decide_eq_true (show ¬ kk < 0 from hn)]
              revert hB; cases ud <;> cases ka <;> cases kb <;> cases s1 <;> simp)
          go_wp2_with fail
          go_ret
          exact ⟨ret_bool (by rw [HQF.out]), hlowc⟩
    · have e : i = d.fields.length := by omega
      subst e
      have hlen : ((d.fields.map RFld.name).take d.fields.length) = d.fields.map RFld.name := List.take_of_length_le (by simp)
      rw [hlen] at hown
      have hs : StrsAt wr _ (d.fields.map RFld.name) := StrsAt.of_own (base := w.heap.size + 2) (by simpa using hown)
      have hc := apart_any _ (d.fields.map RFld.name) wr hs (by simp; omega)
      have HF := hide (show d.fields.all (fldR roles (defs.map RDef.name)) = true from by have := HALL.out; rw [List.take_length] at this; exact this)
      clear hlen hs hown HALL
      generalize hone : apartB (d.fields.map RFld.name) = one at *
      have HONE := hide hone
      clear hone
      go_wp2_with fail
      refine hc.mono ?_
      clear hc
      rintro e w1 ⟨rfl, hb1⟩
      have hbel1 := hbel.trans (hb1.mono hszr)
      have hlow1 := hlow.trans (hb1.mono hlow.size)
      have hsz1 := hb1.size
      clear hbel hlow hb1 cd2
      have cd3 : w1.cell? ⟨w.heap.size + 1, 3, none⟩ = some (.slice aA d.above.length cA) := by rw [hbel1.cell (by simp)]; exact cell_of_block (two_F _ _ _) 3
      have hc := apart_any _ d.above w1 (Hd.out.a.below hlow1) (by omega)
      generalize htwo : apartB d.above = two at *
      have HTWO := hide htwo
      clear htwo
      go_wp2_with fail
      refine hc.mono ?_
      clear hc
      rintro e w2 ⟨rfl, hb2⟩
      have hbel2 := hbel1.trans (hb2.mono (by omega))
      have hlow2 := hlow1.trans (hb2.mono hlow1.size)
      have hsz2 := hb2.size
      clear hbel1 hlow1 hb2 cd3
      have HDR := hide (show defR roles defs d = ((one && two) && (d.above.all (abvR defs d) && (rl d.rule).all (leafR (roles.map RRole.name) d.fields))) from by
        unfold defR; rw [HF.out, HONE.out, HTWO.out, Bool.true_and])
      clear HF HONE HTWO
      cases one
      · have HQF := hide (show q = false from by rw [← HQ.out, HDR.out]; rfl)
        go_wp2_with fail
        go_ret
        exact ⟨ret_bool (by rw [HQF.out]), hlow2⟩
      · cases two
        · have HQF := hide (show q = false from by rw [← HQ.out, HDR.out]; rfl)
          go_wp2_with fail
          go_ret
          exact ⟨ret_bool (by rw [HQF.out]), hlow2⟩
        · have HDR2 := hide (show q = (d.above.all (abvR defs d) && (rl d.rule).all (leafR (roles.map RRole.name) d.fields)) from by rw [← HQ.out, HDR.out]; rfl)
          clear HDR
          go_wp2_with fail
          go_loopg [15, 16, 17, 18, 19, 20] d.above.length (fun k v15 v16 v17 v18 v19 v20 wr => ∃ i : Nat, v15 = .int .i64 i ∧ i ≤ d.above.length ∧ d.above.length - i ≤ k ∧ Below (w.heap.size + 2) ((w.alloc (.cells #[.slice aX roles.length cX, .slice aY defs.length cY] 62)).alloc (.cells #[.int .i64 d.sort, .string d.name, .slice aF d.fields.length cF, .slice aA d.above.length cA, .bool d.ruled, .slice aT d.rule.length cT] 96)) wr ∧ (d.above.take i).all (abvR defs d) = true)
          case atStart => exact ⟨0, rfl, Nat.zero_le _, Nat.le_refl _, hbel2, by simp⟩
          case round =>
            clear hbel2 hlow2
            obtain ⟨wo, rfl⟩ : ∃ wo : World, wo = wr := ⟨_, rfl⟩
            obtain ⟨i, rfl, hil, hik, hbel, hall⟩ := hrel
            have HALL := hide hall
            clear hall
            have cx0 : wo.cell? ⟨w.heap.size, 0, none⟩ = some (.slice aX roles.length cX) := by rw [hbel.cell (by simp)]; exact cell_of_block (two_R _ _ _) 0
            have cx1 : wo.cell? ⟨w.heap.size, 1, none⟩ = some (.slice aY defs.length cY) := by rw [hbel.cell (by simp)]; exact cell_of_block (two_R _ _ _) 1
            have cd3 : wo.cell? ⟨w.heap.size + 1, 3, none⟩ = some (.slice aA d.above.length cA) := by rw [hbel.cell (by simp)]; exact cell_of_block (two_F _ _ _) 3
            have hlow : Below w.heap.size w wo := (two_below w _ _).trans (hbel.mono (by omega))
            have hszo : w.heap.size + 2 ≤ wo.heap.size := by have := hbel.size; simp at this; omega
            by_cases hlt : i < d.above.length
            · have hx := List.getElem?_eq_getElem hlt
              generalize d.above[i] = a at *
              obtain ⟨gA, offA, ha, ca⟩ := (Hd.out.a.below hlow).at hx
              subst ha
              have HX := hide hx
              clear hx
              have hlt2 : i + 1 ≤ d.above.length := hlt
              have hc : ∀ W, Below wo.heap.size wo W → Calls Tryz.prog 74 #[.agg #[.slice aX roles.length cX, .slice aY defs.length cY], .string a] W fun e w' => e = .returned (.int .i64 (idxI (defs.map RDef.name) a)) ∧ Below W.heap.size W w' := fun W hW =>
                def_any aX roles.length cX _ a (defs.map RDef.name) W ((HD.out.below (hlow.trans (hW.mono hlow.size))).names) (by simp; omega)
              have HC := hide hc
              clear hc
              go_upto_region 23 with fail
              go_cut [16] (fun v16 wc => v16 = .int .i64 (idxI (defs.map RDef.name) a) ∧ Below wo.heap.size wo wc)
              case first =>
                go_region_with (go_at_call 74; refine (HC.out _ ?_).mono ?_; (first | exact (Below.refl _ _).drew | exact Below.refl _ _); rintro e w' ⟨rfl, hb'⟩)
                all_goals (try go_wp2_with fail)
                all_goals (go_meet; exact ⟨rfl, (Below.refl _ _).drew.trans hb'⟩)
              case rest =>
                obtain ⟨rfl, hbc⟩ := hcut
                have hbelc := hbel.trans (hbc.mono hszo)
                have hlowc : Below w.heap.size w wc := hlow.trans (hbc.mono hlow.size)
                have hszc := hbc.size
                clear cx0 cx1 cd3 ca hbel hlow hbc HC
                by_cases hneg : idxI (defs.map RDef.name) a < 0
                · have HQF := hide (show q = false from by rw [HDR2.out, all_false _ _ _ _ HX.out (abvR_neg hneg), Bool.false_and])
                  generalize idxI (defs.map RDef.name) a = kk at *
                  go_wp2_with fail
                  go_ret
                  exact ⟨ret_bool (by rw [HQF.out]), hlowc⟩
                · obtain ⟨k, t, hk, ht, _, hkl⟩ := idx_at RDef.name defs a hneg
                  have HAB := hide (abvR_at (d := d) hk ht)
                  have hokt := HOKS.out t (List.mem_of_getElem? ht)
                  have hnt := hokt.nf
                  have hst := hokt.sort
                  rw [hk]
                  have cx1 : wc.cell? ⟨w.heap.size, 1, none⟩ = some (.slice aY defs.length cY) := by rw [hbelc.cell (by simp)]; exact cell_of_block (two_R _ _ _) 1
                  have cd0 : wc.cell? ⟨w.heap.size + 1, 0, none⟩ = some (.int .i64 d.sort) := by rw [hbelc.cell (by simp)]; exact cell_of_block (two_F _ _ _) 0
                  obtain ⟨gY, aF', cF', aA', cA', aT', cT', ha, t0, t1, t2, t3, t4, t5, htd⟩ := (HD.out.below hlowc).at ht
                  subst ha
                  have HTD := hide htd
                  have HT := hide ht
                  clear hk ht hneg htd hokt
                  go_upto_region 27 with fail
                  have HB1 := hide (show (wc.alloc (.cells #[.int .i64 t.sort, .string a, .slice aF' t.fields.length cF', .slice aA' t.above.length cA', .bool t.ruled, .slice aT' t.rule.length cT'] 96)).heap[wc.heap.size]? = some (.cells #[.int .i64 t.sort, .string a, .slice aF' t.fields.length cF', .slice aA' t.above.length cA', .bool t.ruled, .slice aT' t.rule.length cT'] 96 (0, 0)) from one_at _ _)
                  have hbel1 := hbelc.alloc (show w.heap.size + 2 ≤ wc.heap.size by omega) (.cells #[.int .i64 t.sort, .string a, .slice aF' t.fields.length cF', .slice aA' t.above.length cA', .bool t.ruled, .slice aT' t.rule.length cT'] 96)
                  have hlow1 := hlowc.alloc hlowc.size (.cells #[.int .i64 t.sort, .string a, .slice aF' t.fields.length cF', .slice aA' t.above.length cA', .bool t.ruled, .slice aT' t.rule.length cT'] 96)
                  have hsz1 : wc.heap.size + 1 ≤ (wc.alloc (.cells #[.int .i64 t.sort, .string a, .slice aF' t.fields.length cF', .slice aA' t.above.length cA', .bool t.ruled, .slice aT' t.rule.length cT'] 96)).heap.size := Nat.le_of_eq (one_size _ _).symm
                  have HTD1 := hide (HTD.out.below ((Below.refl _ _).alloc (Nat.le_refl _) (.cells #[.int .i64 t.sort, .string a, .slice aF' t.fields.length cF', .slice aA' t.above.length cA', .bool t.ruled, .slice aT' t.rule.length cT'] 96)))
                  clear t0 t1 t2 t3 t4 t5 cx1 cd0 hbelc hlowc HTD
                  generalize wc.alloc (.cells #[.int .i64 t.sort, .string a, .slice aF' t.fields.length cF', .slice aA' t.above.length cA', .bool t.ruled, .slice aT' t.rule.length cT'] 96) = w1 at *
                  have cd0 : w1.cell? ⟨w.heap.size + 1, 0, none⟩ = some (.int .i64 d.sort) := by rw [hbel1.cell (by simp)]; exact cell_of_block (two_F _ _ _) 0
                  have t0 : w1.cell? ⟨wc.heap.size, 0, none⟩ = some (.int .i64 t.sort) := cell_of_block HB1.out 0
                  by_cases hs2 : d.sort = 2
                  · have e2 : ((d.sort : Int) == 2) = true := by simp; omega
                    by_cases hs0 : t.sort = 0
                    · have e0 : ((t.sort : Int) == 0) = true := by simp; omega
                      have HOKA := hide (show abvR defs d a = true from by rw [HAB.out, if_pos hs2, decide_eq_true hs0])
                      clear hs2 hs0
                      go_wp2_with fail
                      go_roundg (d.above.length - (i + 1))
                      case measure => omega
                      case rel => exact ⟨i + 1, by go_num, hlt2, Nat.le_refl _, hbel1, all_take_snoc _ _ _ _ HALL.out HX.out HOKA.out⟩
                    · have e0 : ((t.sort : Int) == 0) = false := by simp; omega
                      have HQF := hide (show q = false from by rw [HDR2.out, all_false _ _ _ _ HX.out (show abvR defs d a = false from by rw [HAB.out, if_pos hs2, decide_eq_false hs0]), Bool.false_and])
                      clear hs2 hs0
                      go_wp2_with fail
                      go_ret
                      exact ⟨ret_bool (by rw [HQF.out]), hlow1⟩
                  · have e2 : ((d.sort : Int) == 2) = false := by simp; omega
                    have HAB2 := hide (show abvR defs d a = (decide (t.sort = 1) && t.fields.all (sameR d.fields)) from by rw [HAB.out, if_neg hs2])
                    have HE1 := hide (show ((t.sort : Int) == 1) = decide (t.sort = 1) from by rw [Bool.eq_iff_iff]; simp; omega)
                    clear hs2 HAB
                    go_wp2_with fail
                    go_loopg [18, 19, 20] t.fields.length (fun kk v18 v19 v20 wr => ∃ (ok : Bool) (j : Nat), v18 = .bool ok ∧ v19 = .int .i64 j ∧ j ≤ t.fields.length ∧ t.fields.length - j ≤ kk ∧ Below w1.heap.size w1 wr ∧ ok = (decide (t.sort = 1) && (t.fields.take j).all (sameR d.fields)))
                    case atStart => exact ⟨_, 0, rfl, rfl, Nat.zero_le _, Nat.le_refl _, Below.refl _ _, by first | (rw [HE1.out]; simp) | simp⟩
                    case round =>
                      obtain ⟨ok, j, rfl, rfl, hjl, hjk, hbr, hokj⟩ := hrel
                      have HOJ := hide hokj
                      clear hokj cd0 t0
                      have hbelr := hbel1.trans (hbr.mono (by omega))
                      have hlowr := hlow1.trans (hbr.mono hlow1.size)
                      have HBr := hide ((hbr.block _ (lt_of_block HB1.out)).trans HB1.out)
                      have HTDr := hide (HTD1.out.below hbr)
                      have t2 : wr.cell? ⟨wc.heap.size, 2, none⟩ = some (.slice aF' t.fields.length cF') := cell_of_block HBr.out 2
                      have hszr := hbr.size
                      by_cases hltj : j < t.fields.length
                      · cases ok
                        · have HQF := hide (show q = false from by
                            rw [HDR2.out, all_false _ _ _ _ HX.out (show abvR defs d a = false from by
                              rw [HAB2.out]
                              have := HOJ.out
                              cases hd1 : decide (t.sort = 1)
                              · rfl
                              · rw [hd1, Bool.true_and] at this
                                rw [all_take_false _ _ _ this.symm]; rfl), Bool.false_and])
                          go_wp2_with fail
                          go_ret
                          exact ⟨ret_bool (by rw [HQF.out]), hlowr⟩
                        · have hgx := List.getElem?_eq_getElem hltj
                          have hltj2 : j + 1 ≤ t.fields.length := hltj
                          generalize t.fields[j] = g at *
                          obtain ⟨gG, ha, g0, g1, g2, g3, g4⟩ := HTDr.out.f.at hgx
                          subst ha
                          have HG := hide hgx
                          clear hgx
                          have cd0 : wr.cell? ⟨w.heap.size + 1, 0, none⟩ = some (.int .i64 d.sort) := by rw [hbelr.cell (by simp)]; exact cell_of_block (two_F _ _ _) 0
                          have cd1 : wr.cell? ⟨w.heap.size + 1, 1, none⟩ = some (.string d.name) := by rw [hbelr.cell (by simp)]; exact cell_of_block (two_F _ _ _) 1
                          have cd2 : wr.cell? ⟨w.heap.size + 1, 2, none⟩ = some (.slice aF d.fields.length cF) := by rw [hbelr.cell (by simp)]; exact cell_of_block (two_F _ _ _) 2
                          have cd3 : wr.cell? ⟨w.heap.size + 1, 3, none⟩ = some (.slice (some ⟨gA, offA, none⟩) d.above.length cA) := by rw [hbelr.cell (by simp)]; exact cell_of_block (two_F _ _ _) 3
                          have cd4 : wr.cell? ⟨w.heap.size + 1, 4, none⟩ = some (.bool d.ruled) := by rw [hbelr.cell (by simp)]; exact cell_of_block (two_F _ _ _) 4
                          have cd5 : wr.cell? ⟨w.heap.size + 1, 5, none⟩ = some (.slice aT d.rule.length cT) := by rw [hbelr.cell (by simp)]; exact cell_of_block (two_F _ _ _) 5
                          have hc : ∀ W, Below wr.heap.size wr W → Calls Tryz.prog 49 #[.agg #[.int .i64 d.sort, .string d.name, .slice aF d.fields.length cF, .slice (some ⟨gA, offA, none⟩) d.above.length cA, .bool d.ruled, .slice aT d.rule.length cT], .string g.name] W fun e w' => e = .returned (.int .i64 (idxI (d.fields.map RFld.name) g.name)) ∧ Below W.heap.size W w' := fun W hW =>
                            dfield_any d.sort d.name _ _ _ _ _ _ d.ruled _ g.name (d.fields.map RFld.name) W ((Hd.out.f.below (hlowr.trans (hW.mono hlowr.size))).names) (by simp; omega)
                          have HC := hide hc
                          clear hc
                          go_upto_region 34 with fail
                          obtain ⟨wq, hwq⟩ : ∃ wq : World, wq = wc := ⟨_, rfl⟩
                          subst hwq
                          go_cut [20] (fun v20 wc => v20 = .int .i64 (idxI (d.fields.map RFld.name) g.name) ∧ Below wr.heap.size wr wc)
                          case first =>
                            go_region_with (go_at_call 49; refine (HC.out _ ?_).mono ?_; (first | exact (Below.refl _ _).drew | exact Below.refl _ _); rintro e w' ⟨rfl, hb'⟩)
                            all_goals (try go_wp2_with fail)
                            all_goals (go_meet; exact ⟨rfl, (Below.refl _ _).drew.trans hb'⟩)
                          case rest =>
                            obtain ⟨rfl, hbc⟩ := hcut
                            have hbelc := hbelr.trans (hbc.mono (by omega))
                            have hlowc : Below w.heap.size w wc := hlowr.trans (hbc.mono hlowr.size)
                            have hbr1 := hbr.trans (hbc.mono hbr.size)
                            have HBc := hide ((hbc.block _ (lt_of_block HBr.out)).trans HBr.out)
                            obtain ⟨gG', ha, k0, k1, k2, k3, k4⟩ := (HTDr.out.below hbc).f.at HG.out
                            cases ha
                            have HO1 := hide (show decide (t.sort = 1) = true ∧ (t.fields.take j).all (sameR d.fields) = true from by
                              have := HOJ.out.symm
                              rw [Bool.and_eq_true] at this
                              exact this)
                            clear cd0 cd1 cd2 cd3 cd4 cd5 g0 g1 g2 g3 g4 t2 HC hbelr hlowr hbr hbc HBr HTDr HOJ
                            have t2 : wc.cell? ⟨wq.heap.size, 2, none⟩ = some (.slice (some ⟨gG, 0, none⟩) t.fields.length cF') := cell_of_block HBc.out 2
                            have cd2 : wc.cell? ⟨w.heap.size + 1, 2, none⟩ = some (.slice aF d.fields.length cF) := by rw [hbelc.cell (by simp)]; exact cell_of_block (two_F _ _ _) 2
                            by_cases hneg : idxI (d.fields.map RFld.name) g.name < 0
                            · have HS := hide (sameR_neg hneg)
                              generalize idxI (d.fields.map RFld.name) g.name = kk2 at *
                              have hge : decide ((0 : Int) ≤ kk2) = false := decide_eq_false (by omega)
                              go_wp2_with fail
                              go_quiet (fail)
                              go_wp2_with fail
                              go_roundg (t.fields.length - (j + 1))
                              case measure => omega
                              case rel => exact ⟨false, j + 1, rfl, by go_num, hltj2, Nat.le_refl _, below_drewN hbr1 _, by rw [List.take_add_one, HG.out, List.all_append, HO1.out.1, HO1.out.2]; simp [HS.out]⟩
                            · obtain ⟨n, f, hn, hf, hfn, hnl⟩ := idx_at RFld.name d.fields g.name hneg
                              have HS := hide (sameR_at hn hf)
                              obtain ⟨gD, ha, f0, f1, f2, f3, f4⟩ := (Hd.out.f.below hlowc).at hf
                              subst ha
                              rw [hn]
                              clear hn hf hneg
                              have hge : (0 : Int) ≤ (n : Int) := by omega
                              go_wp2_with fail
                              go_quiet (fail)
                              go_wp2_with fail
                              go_roundg (t.fields.length - (j + 1))
                              case measure => omega
                              case rel => exact ⟨_, j + 1, rfl, by go_num, hltj2, Nat.le_refl _, below_drewN hbr1 _, by rw [List.take_add_one, HG.out, List.all_append, HO1.out.1, HO1.out.2]; simp [HS.out, rfEq_eq, hfn]⟩
                      · have HQT := hide (show ok = abvR defs d a from by
                          have := HOJ.out
                          rw [List.take_of_length_le (by omega)] at this
                          rw [HAB2.out]; exact this)
                        cases ok
                        · have HQF := hide (show q = false from by rw [HDR2.out, all_false _ _ _ _ HX.out HQT.out.symm, Bool.false_and])
                          go_wp2_with fail
                          go_ret
                          exact ⟨ret_bool (by rw [HQF.out]), hlowr⟩
                        · go_wp2_with fail
                          go_roundg (d.above.length - (i + 1))
                          case measure => omega
                          case rel => exact ⟨i + 1, by go_num, hlt2, Nat.le_refl _, hbelr, all_take_snoc _ _ _ _ HALL.out HX.out HQT.out.symm⟩
            · have e : i = d.above.length := by omega
              subst e
              have HT := hide (show q = (rl d.rule).all (leafR (roles.map RRole.name) d.fields) from by
                have := HALL.out
                rw [List.take_length] at this
                rw [HDR2.out, this, Bool.true_and])
              have hcr := xruleRight_any aY aA defs.length cY d.above.length cA d.sort d.name d.ruled _ _ _ roles d.fields d.rule wo (HR.out.below hlow) (Hd.out.f.below hlow) (Hd.out.r.below hlow) HOK.out.tys hlR hnf HOK.out.nr HOK.out.tok HOK.out.rul
              have cd0 : wo.cell? ⟨w.heap.size + 1, 0, none⟩ = some (.int .i64 d.sort) := by rw [hbel.cell (by simp)]; exact cell_of_block (two_F _ _ _) 0
              have cd1 : wo.cell? ⟨w.heap.size + 1, 1, none⟩ = some (.string d.name) := by rw [hbel.cell (by simp)]; exact cell_of_block (two_F _ _ _) 1
              have cd2 : wo.cell? ⟨w.heap.size + 1, 2, none⟩ = some (.slice aF d.fields.length cF) := by rw [hbel.cell (by simp)]; exact cell_of_block (two_F _ _ _) 2
              have cd4 : wo.cell? ⟨w.heap.size + 1, 4, none⟩ = some (.bool d.ruled) := by rw [hbel.cell (by simp)]; exact cell_of_block (two_F _ _ _) 4
              have cd5 : wo.cell? ⟨w.heap.size + 1, 5, none⟩ = some (.slice aT d.rule.length cT) := by rw [hbel.cell (by simp)]; exact cell_of_block (two_F _ _ _) 5
              generalize (rl d.rule).all (leafR (roles.map RRole.name) d.fields) = res at *
              go_wp2_with fail
              refine hcr.mono ?_
              clear hcr
              rintro e w3 ⟨rfl, hb3⟩
              go_wp2_with fail
              go_ret
              exact ⟨ret_bool (by rw [HT.out]), hlow.trans (hb3.mono hlow.size)⟩
end Go.Proofs.YtpggfgjongkihaaGreat
namespace Go.Proofs.YtpggfgjongkihaaGreat
open Go.RowKit
def bQ : ByteArray := ⟨#[81, 117, 101, 114, 121]⟩
def queryR (defs : List RDef) : Bool := if idxI (defs.map RDef.name) bQ < 0 then false else match defs[(idxI (defs.map RDef.name) bQ).toNat]? with
  | some t => decide (t.sort = 0) && !t.ruled
  | none => false
def oneR (roles : List RRole) (defs : List RDef) (d : RDef) : Bool := !scalB d.name && defR roles defs d
def rightR (roles : List RRole) (defs : List RDef) : Bool := rolesR roles && (queryR defs && (defs.all (oneR roles defs) && apartB (defs.map RDef.name)))
theorem queryR_at {defs : List RDef} {t : RDef} {k : Nat} (h : idxI (defs.map RDef.name) bQ = k) (ht : defs[k]? = some t) : queryR defs = (decide (t.sort = 0) && !t.ruled) := by
  unfold queryR; rw [if_neg (by omega), h, Int.toNat_natCast, ht]
set_option maxHeartbeats 4000000 in
set_option maxRecDepth 100000 in
theorem right_any (vX vY : Value) (roles : List RRole) (defs : List RDef) (w : World)
    (hR : RolesAt w vX roles) (hD : DefsAt w vY defs) (hoks : ∀ x ∈ defs, okDef x) (hlR : roles.length ≤ 801) (hlD : defs.length ≤ 801) (hU : (allInc roles).length ≤ 700000) :
    Calls Tryz.prog 40 #[.agg #[vX, vY]] w fun e w' => e = .returned (.bool (rightR roles defs)) ∧ Below w.heap.size w w' := by
  have HR := hide hR
  have HD := hide hD
  have HOKS := hide hoks
  obtain ⟨aX, cX, rfl, _⟩ := hR
  obtain ⟨aY, cY, rfl, _⟩ := hD
  clear hoks
  obtain ⟨i0, hi, hz0, hz1, hz2⟩ := info_parts Tryz.info9
  have HRR := hide (fun W (hW : Below w.heap.size w W) => rolesRight_any aY defs.length cY _ roles W (HR.out.below hW) hlR hU)
  have HDF := hide (fun W (hW : Below w.heap.size w W) => def_any aX roles.length cX _ bQ (defs.map RDef.name) W ((HD.out.below hW).names) (by simp; omega))
  generalize hq : rightR roles defs = q
  have HQ := hide hq
  clear hq
  generalize hrr : rolesR roles = rr at *
  have HRB := hide hrr
  clear hrr
  go_enter Tryz.func40, Tryz.ntmps40
  go_wp2_with fail
  refine (HRR.out _ ((Below.refl _ _).alloc (Nat.le_refl _) _)).mono ?_
  rintro e w1 ⟨rfl, hb1⟩
  have hbel1 : Below (w.heap.size + 1) (w.alloc (.cells #[.slice aX roles.length cX, .slice aY defs.length cY] 62)) w1 := hb1.mono (by simp)
  have hlow1 : Below w.heap.size w w1 := ((Below.refl _ _).alloc (Nat.le_refl _) _).trans (hbel1.mono (by omega))
  have hsz1 : w.heap.size + 1 ≤ w1.heap.size := by have := hbel1.size; simp at this; omega
  clear hb1
  have cx0 : w1.cell? ⟨w.heap.size, 0, none⟩ = some (.slice aX roles.length cX) := by rw [hbel1.cell (by simp)]; simp
  have cx1 : w1.cell? ⟨w.heap.size, 1, none⟩ = some (.slice aY defs.length cY) := by rw [hbel1.cell (by simp)]; simp
  go_wp2_with fail
  refine (HDF.out _ hlow1).mono ?_
  rintro e w2 ⟨rfl, hb2⟩
  have hbel2 := hbel1.trans (hb2.mono hsz1)
  have hlow2 := hlow1.trans (hb2.mono hlow1.size)
  have hsz2 := hb2.size
  clear hb2 cx0 cx1 hbel1 hlow1
  have cx1 : w2.cell? ⟨w.heap.size, 1, none⟩ = some (.slice aY defs.length cY) := by rw [hbel2.cell (by simp)]; simp
  cases rr
  · have HQF := hide (show q = false from by rw [← HQ.out]; unfold rightR; rw [HRB.out]; rfl)
    generalize idxI (defs.map RDef.name) bQ = kk at *
    go_wp2_with fail
    go_ret
    exact ⟨ret_bool (by rw [HQF.out]), hlow2⟩
  · by_cases hneg : idxI (defs.map RDef.name) bQ < 0
    · have HQF := hide (show q = false from by rw [← HQ.out]; unfold rightR queryR; rw [if_pos hneg, Bool.false_and, Bool.and_false])
      generalize idxI (defs.map RDef.name) bQ = kk at *
      go_wp2_with fail
      go_ret
      exact ⟨ret_bool (by rw [HQF.out]), hlow2⟩
    · obtain ⟨k, t, hk, ht, _, hkl⟩ := idx_at RDef.name defs bQ hneg
      have HQR := hide (queryR_at hk ht)
      rw [hk]
      obtain ⟨gY, aF', cF', aA', cA', aT', cT', ha, t0, t1, t2, t3, t4, t5, htd⟩ := (HD.out.below hlow2).at ht
      subst ha
      clear hk ht hneg htd t1 t2 t3 t5
      have hk0 : decide ((k : Int) < 0) = false := decide_eq_false (by omega)
      by_cases hs0 : t.sort = 0
      · have e0 : ((t.sort : Int) != 0) = false := by simp; omega
        cases hru : t.ruled
        · rw [hru] at t4
          have HQ2 := hide (show q = (defs.all (oneR roles defs) && apartB (defs.map RDef.name)) from by
            rw [← HQ.out]; unfold rightR; rw [HRB.out, HQR.out, hru, decide_eq_true hs0]; rfl)
          clear hs0 hru HQR
          go_wp2_with fail
          go_loopg [3, 5, 6, 7] defs.length (fun k v3 v5 v6 v7 wr => ∃ i : Nat, v6 = .int .i64 i ∧ i ≤ defs.length ∧ defs.length - i ≤ k ∧ wr.ownsRow (w.heap.size + 1) 9 1 v5 i (strsV ((defs.map RDef.name).take i)) ∧ Below (w.heap.size + 1) (w.alloc (.cells #[.slice aX roles.length cX, .slice (some ⟨gY, 0, none⟩) defs.length cY] 62)) wr ∧ (defs.take i).all (oneR roles defs) = true)
          case atStart => exact ⟨0, rfl, Nat.zero_le _, Nat.le_refl _, World.ownsRow_nil _ _ _ _, hbel2, by simp⟩
          case round =>
            clear hbel2 hlow2 cx1 t0 t4 e0 hk0
            obtain ⟨i, rfl, hil, hik, hown, hbel, hall⟩ := hrel
            have HALL := hide hall
            clear hall
            obtain ⟨aL, capL, hvL⟩ := own_slice hown
            subst hvL
            have cx0 : wr.cell? ⟨w.heap.size, 0, none⟩ = some (.slice aX roles.length cX) := by rw [hbel.cell (by simp)]; simp
            have cx1 : wr.cell? ⟨w.heap.size, 1, none⟩ = some (.slice (some ⟨gY, 0, none⟩) defs.length cY) := by rw [hbel.cell (by simp)]; simp
            have hlow : Below w.heap.size w wr := ((Below.refl _ _).alloc (Nat.le_refl _) _).trans (hbel.mono (by omega))
            have hszr : w.heap.size + 1 ≤ wr.heap.size := by have := hbel.size; simp at this; omega
            by_cases hlt : i < defs.length
            · have hx := List.getElem?_eq_getElem hlt
              generalize defs[i] = d at *
              obtain ⟨gY', aF, cF, aA, cA, aT, cT, ha, d0, d1, d2, d3, d4, d5, hdd⟩ := (HD.out.below hlow).at hx
              cases ha
              have hlt2 : i + 1 ≤ defs.length := hlt
              have HX := hide hx
              have HDD := hide hdd
              have HODD := hide (HOKS.out d (List.mem_of_getElem? hx))
              clear hx hdd
              have hsc := scalar_any d.name wr
              have HONE := hide (show oneR roles defs d = (!scalB d.name && defR roles defs d) from rfl)
              have hc : ∀ W, Below wr.heap.size wr W → Calls Tryz.prog 76 #[.agg #[.slice aX roles.length cX, .slice (some ⟨gY, 0, none⟩) defs.length cY], .agg #[.int .i64 d.sort, .string d.name, .slice aF d.fields.length cF, .slice aA d.above.length cA, .bool d.ruled, .slice aT d.rule.length cT]] W fun e w' => e = .returned (.bool (defR roles defs d)) ∧ Below W.heap.size W w' := fun W hW =>
                defRight_any _ _ _ _ _ roles defs d W (HR.out.below (hlow.trans (hW.mono hlow.size))) (HD.out.below (hlow.trans (hW.mono hlow.size))) (HDD.out.below hW) HODD.out HOKS.out hlR hlD
              have HC := hide hc
              clear hc
              generalize scalB d.name = sb at *
              generalize defR roles defs d = db at *
              go_wp2_with fail
              refine hsc.mono ?_
              clear hsc
              rintro e w' ⟨rfl, hw'⟩
              have hw' := hw'.symm
              subst hw'
              go_upto_region 10 with fail
              go_cut [3] (fun v3 wc => v3 = .bool db ∧ Below wr.heap.size wr wc)
              case first =>
                go_region_with (go_at_call 76; refine (HC.out _ ?_).mono ?_; (first | exact (Below.refl _ _).drew | exact Below.refl _ _); rintro e w' ⟨rfl, hb'⟩)
                all_goals (try go_wp2_with fail)
                all_goals (go_meet; exact ⟨rfl, (Below.refl _ _).drew.trans hb'⟩)
              case rest =>
                obtain ⟨rfl, hbc⟩ := hcut
                have hbelc := hbel.trans (hbc.mono hszr)
                have hlowc : Below w.heap.size w wc := hlow.trans (hbc.mono hlow.size)
                have hownc := ownsRow_below hown hbc
                have hszc := hbc.size
                clear cx0 cx1 d0 d1 d2 d3 d4 d5 HC hbel hlow hown hbc HDD
                have cx1 : wc.cell? ⟨w.heap.size, 1, none⟩ = some (.slice (some ⟨gY, 0, none⟩) defs.length cY) := by rw [hbelc.cell (by simp)]; simp
                obtain ⟨gY', aF2, cF2, aA2, cA2, aT2, cT2, ha, _, d1, _⟩ := (HD.out.below hlowc).at HX.out
                cases ha
                cases sb
                · cases db
                  · have HQF := hide (show q = false from by rw [HQ2.out, all_false _ _ _ _ HX.out HONE.out, Bool.false_and])
                    go_wp2_with fail
                    go_ret
                    exact ⟨ret_bool (by rw [HQF.out]), hlowc⟩
                  · have hgl : ∀ k, (Value.slice aL i capL).ownBlock = some k → w.heap.size + 1 ≤ k := fun k hk => (hownc.lt k hk).1
                    go_wp2_with (at_builtin; refine wpList_append_own _ rfl _ _ 50 rfl (w.heap.size + 1) 9 i0 _ 1 16 Tryz.underlying50 hi hz0 hz1 hz2 rfl (by decide) _ _ _ rfl (hownc.alloc _) ⟨wc.heap.size, 0, none⟩ 1 1 [.string d.name] rfl rfl (cell_one_new _ _ _) (fun u hu => by simp at hu; subst hu; rfl) (by unfold maxLen; omega) (by omega) (by simp; omega) ?_; intro v' x3 hown' hgrow _)
                    have hbel3 : Below (w.heap.size + 1) (w.alloc (.cells #[.slice aX roles.length cX, .slice (some ⟨gY, 0, none⟩) defs.length cY] 62)) x3 := Below.grown (hbelc.alloc (by omega) _) hgrow (by simp; omega) hgl
                    have hown3 : x3.ownsRow (w.heap.size + 1) 9 1 v' (i + 1) (strsV ((defs.map RDef.name).take (i + 1))) := by
                      rw [List.take_add_one, List.getElem?_map, HX.out]
                      simpa [strsV] using hown'
                    go_roundg (defs.length - (i + 1))
                    case measure => omega
                    case rel => exact ⟨i + 1, by go_num, hlt2, Nat.le_refl _, hown3, hbel3, all_take_snoc _ _ _ _ HALL.out HX.out HONE.out⟩
                · have HQF := hide (show q = false from by rw [HQ2.out, all_false _ _ _ _ HX.out HONE.out, Bool.false_and])
                  go_wp2_with fail
                  go_ret
                  exact ⟨ret_bool (by rw [HQF.out]), hlowc⟩
            · have e : i = defs.length := by omega
              subst e
              have hlen : ((defs.map RDef.name).take defs.length) = defs.map RDef.name := List.take_of_length_le (by simp)
              rw [hlen] at hown
              have hs : StrsAt wr _ (defs.map RDef.name) := StrsAt.of_own (base := w.heap.size + 1) (by simpa using hown)
              have hc := apart_any _ (defs.map RDef.name) wr hs (by simp; omega)
              have HT := hide (show q = apartB (defs.map RDef.name) from by
                have := HALL.out
                rw [List.take_length] at this
                rw [HQ2.out, this, Bool.true_and])
              clear hlen
              go_wp2_with fail
              refine hc.mono ?_
              clear hc
              rintro e w3 ⟨rfl, hb3⟩
              go_wp2_with fail
              go_ret
              exact ⟨ret_bool (by rw [HT.out]), hlow.trans (hb3.mono hlow.size)⟩
        · rw [hru] at t4
          have HQF := hide (show q = false from by rw [← HQ.out]; unfold rightR; rw [HQR.out, hru]; simp)
          clear hs0 hru HQR
          go_wp2_with fail
          go_ret
          exact ⟨ret_bool (by rw [HQF.out]), hlow2⟩
      · have e0 : ((t.sort : Int) != 0) = true := by simp; omega
        have HQF := hide (show q = false from by rw [← HQ.out]; unfold rightR; rw [HQR.out, decide_eq_false hs0]; simp)
        clear hs0 HQR
        go_wp2_with fail
        go_ret
        exact ⟨ret_bool (by rw [HQF.out]), hlow2⟩
end Go.Proofs.YtpggfgjongkihaaGreat
