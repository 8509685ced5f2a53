/- The reference's checks: had. The reference's checks: rolesRight. The reference's checks: what ruleRight asks, as a plain function; slices of tokens. -/
import Derived.Test.YtpggfgjongkihaaGreatM09
import Derived.Deep.RegionWith
namespace Go.Proofs.YtpggfgjongkihaaGreat
open Go.RowKit
theorem addIn_cons (x : ByteArray) (r l : List ByteArray) : addIn (x :: r) l = addIn r (if memB x l = true then l else l ++ [x]) := rfl
theorem idx_lt (roles : List RRole) (x : ByteArray) (h : ¬ idxI (roles.map RRole.name) x < 0) : ∃ (k : Nat) (r : RRole), idxI (roles.map RRole.name) x = k ∧ roles[k]? = some r ∧ incAt roles x = r.inc := by
  have key : ∀ (l : List ByteArray) (n : Nat), ¬ idxF l x n < 0 → ∃ k : Nat, idxF l x n = ((n + k : Nat) : Int) ∧ k < l.length := by
    intro l
    induction l with
    | nil => intro n hn; exact absurd (show (-1 : Int) < 0 by decide) hn
    | cons y l ih =>
      intro n hn
      rw [idxF] at hn ⊢
      by_cases e : y = x
      · rw [if_pos e]; exact ⟨0, by simp, by simp⟩
      · rw [if_neg e] at hn ⊢
        obtain ⟨k, h1, h2⟩ := ih (n + 1) hn
        exact ⟨k + 1, by rw [h1]; congr 1; omega, by simp; omega⟩
  obtain ⟨k, h1, h2⟩ := key _ 0 h
  rw [Nat.zero_add] at h1
  have h3 : k < roles.length := by simpa using h2
  refine ⟨k, roles[k], h1, List.getElem?_eq_getElem h3, ?_⟩
  unfold incAt
  rw [if_neg h]
  have : (idxI (roles.map RRole.name) x).toNat = k := by show (idxF _ _ _).toNat = k; rw [h1]; simp
  rw [this, List.getElem?_eq_getElem h3]; rfl
theorem inc_le : ∀ (roles : List RRole) (r : RRole), r ∈ roles → r.inc.length ≤ (allInc roles).length
  | [], _, h => by cases h
  | q :: roles, r, h => by
    unfold allInc
    rw [List.flatMap_cons, List.length_append]
    rcases List.mem_cons.1 h with e | e
    · rw [e]; omega
    · have := inc_le roles r e
      unfold allInc at this
      omega
set_option maxHeartbeats 2000000 in
set_option maxRecDepth 100000 in
theorem had_any (aD : Option Addr) (nD cD : Nat) (v : Value) (x : ByteArray) (roles : List RRole) (w : World) (h : RolesAt w v roles) (hl : roles.length ≤ 801) (hU : (allInc roles).length ≤ 700000) :
    Calls Tryz.prog 91 #[.agg #[v, .slice aD nD cD], .string x] w fun e w' => ∃ u, e = .returned u ∧ w'.ownsRow w.heap.size 9 1 u (hadR roles x).length (strsV (hadR roles x)) ∧ (hadR roles x).length ≤ 700001 ∧ Below w.heap.size w w' := by
  obtain ⟨i0, hi, hz0, hz1, hz2⟩ := info_parts Tryz.info9
  have H0 := hide h
  obtain ⟨a, cap, rfl, _⟩ := h
  have HQ := hide (show hadR roles x = hadF roles (mu roles 0 [x] + 1) 0 [x] from rfl)
  go_enter Tryz.func91, Tryz.ntmps91
  go_wp2_with fail
  go_loopg [5, 6, 7, 8, 9] (mu roles 0 [x]) (fun k v5 v6 v7 v8 v9 wr => ∃ (i : Nat) (l : List ByteArray), v6 = .int .i64 i ∧ i ≤ l.length ∧ mu roles i l ≤ k ∧ wr.ownsRow (w.heap.size + 1) 9 1 v5 l.length (strsV l) ∧ Below (w.heap.size + 1) (w.alloc (.cells #[.slice a roles.length cap, .slice aD nD cD] 62)) wr ∧ l.length + missing (allInc roles) l ≤ 1 + (allInc roles).length ∧ hadR roles x = hadF roles (mu roles i l + 1) i l)
  case atStart => exact ⟨0, [x], rfl, by simp, Nat.le_refl _, by
    refine ⟨by simp [strsV], Or.inr ⟨w.heap.size + 1, 1, #[.string x], rfl, Nat.le_refl _, two_F _ _ _, Nat.le_refl _, by decide, rfl, rfl⟩⟩, (Below.refl _ _).alloc (by simp) _, by have := missing_all (allInc roles) [x]; simp; omega, HQ.out⟩
  case round =>
    obtain ⟨i, l, rfl, hil, hmu, hown, hbel, hbd, hrel⟩ := hrel
    have HM := hide hrel
    clear hrel
    obtain ⟨aL, capL, hvL⟩ := own_slice hown
    subst hvL
    have hbox0 : wr.cell? ⟨w.heap.size, 0, none⟩ = some (.slice a roles.length cap) := by rw [hbel.cell (by simp)]; simp
    have hbox1 : wr.cell? ⟨w.heap.size, 1, none⟩ = some (.slice aD nD cD) := by rw [hbel.cell (by simp)]; simp
    have hlow : Below w.heap.size w wr := ((Below.refl _ _).alloc (Nat.le_refl _) _).trans (hbel.mono (by omega))
    have hszr : w.heap.size + 1 ≤ wr.heap.size := by have := hbel.size; simp at this; omega
    by_cases hlt : i < l.length
    · have hx := List.getElem?_eq_getElem hlt
      rcases hown.2 with ⟨q, q0⟩ | ⟨g, cp, cur, q, hg, hh, hn1, hn2, hn3, hn4⟩
      · omega
      cases q
      have hcy : wr.cell? ⟨g, i, none⟩ = some (.string l[i]) := by
        rw [hown.cellAt i (by omega)]; simp [strsV, hx]
      have hgl := lt_of_block hh
      have HST := hide (hadF_step roles i l _ hx)
      have HMU := hide (mu_step roles i l _ hx)
      clear hx hg hh hn1 hn2 hn3 hn4
      generalize l[i] = y at *
      have hc : ∀ W, Below wr.heap.size wr W → Calls Tryz.prog 28 #[.agg #[.slice a roles.length cap, .slice aD nD cD], .string y] W fun e w' => e = .returned (.int .i64 (idxI (roles.map RRole.name) y)) ∧ Below W.heap.size W w' := fun W hW =>
        xrole_any aD nD cD _ y (roles.map RRole.name) W ((H0.out.below (hlow.trans (hW.mono hlow.size))).names) (by simp; omega)
      have HC := hide hc
      clear hc
      go_upto_region 5 with fail
      go_cut [7] (fun v7 wc => v7 = .int .i64 (idxI (roles.map RRole.name) y) ∧ Below wr.heap.size wr wc)
      case first =>
        go_region_with (go_at_call 28; refine (HC.out _ ?_).mono ?_; (first | exact (Below.refl _ _).drew | exact Below.refl _ _); rintro e w' ⟨rfl, hb'⟩)
        all_goals (try go_wp2_with fail)
        all_goals (go_meet; exact ⟨rfl, (Below.refl _ _).drew.trans hb'⟩)
      case rest =>
        obtain ⟨rfl, hbc⟩ := hcut
        have hownc := ownsRow_below hown hbc
        have hbelc := hbel.trans (hbc.mono hszr)
        have hbx0 : wc.cell? ⟨w.heap.size, 0, none⟩ = some (.slice a roles.length cap) := by rw [hbelc.cell (by simp)]; simp
        have hlowc : Below w.heap.size w wc := hlow.trans (hbc.mono hlow.size)
        have hszc := hbc.size
        clear hbox0 hbox1 hown hbel hbc hcy HC
        by_cases hneg : idxI (roles.map RRole.name) y < 0
        · have HI := hide (show addIn (incAt roles y) l = l from by unfold incAt; rw [if_pos hneg]; rfl)
          rw [HI.out] at HST HMU
          generalize idxI (roles.map RRole.name) y = q at *
          go_wp2_with fail
          go_roundg (mu roles (i + 1) l)
          case measure => have := HMU.out; omega
          case rel => exact ⟨i + 1, l, by go_num, by omega, Nat.le_refl _, hownc, hbelc, hbd, by rw [HM.out, HST.out]⟩
        · obtain ⟨k, r, hk, hr, hinc⟩ := idx_lt roles y hneg
          rw [hk]
          have hbnd := addIn_bound (allInc roles) (incAt roles y) l (incAt_sub roles y)
          have hsub := incAt_sub roles y
          rw [hinc] at HST HMU hbnd hsub
          have HB := hide hbnd
          have HSUB := hide hsub
          have HR := hide hr
          have hkl : k < roles.length := (List.getElem?_eq_some_iff.1 hr).1
          have hrl : r.inc.length ≤ 700000 := Nat.le_trans (inc_le roles r (List.mem_of_getElem? hr)) hU
          clear hk hr hinc hneg hbnd hsub
          go_wp2_with fail
          go_loopg [5, 8, 9] r.inc.length (fun kk v5 v8 v9 wr => ∃ (j : Nat) (l' : List ByteArray), v8 = .int .i64 j ∧ j ≤ r.inc.length ∧ r.inc.length - j ≤ kk ∧ wr.ownsRow (w.heap.size + 1) 9 1 v5 l'.length (strsV l') ∧ Below (w.heap.size + 1) (w.alloc (.cells #[.slice a roles.length cap, .slice aD nD cD] 62)) wr ∧ l'.length + missing (allInc roles) l' ≤ 1 + (allInc roles).length ∧ addIn r.inc l = addIn (r.inc.drop j) l')
          case atStart => exact ⟨0, l, rfl, Nat.zero_le _, Nat.le_refl _, hownc, hbelc, hbd, by simp⟩
          case round =>
            obtain ⟨wo, rfl⟩ : ∃ wo : World, wo = wr := ⟨_, rfl⟩
            clear hownc hbelc hbx0 hlowc hszc hlow hszr hbd
            obtain ⟨j, l', rfl, hj, hjk, hown, hbel, hbd, hadd⟩ := hrel
            have HA := hide hadd
            clear hadd
            have hb0 : wo.cell? ⟨w.heap.size, 0, none⟩ = some (.slice a roles.length cap) := by rw [hbel.cell (by simp)]; simp
            have hlow : Below w.heap.size w wo := ((Below.refl _ _).alloc (Nat.le_refl _) _).trans (hbel.mono (by omega))
            have hszo : w.heap.size + 1 ≤ wo.heap.size := by have := hbel.size; simp at this; omega
            obtain ⟨a', cap', e1, h3⟩ := H0.out.below hlow
            cases e1
            obtain ⟨gR, ha, h4⟩ : ∃ g, a = some ⟨g, 0, none⟩ ∧ ∀ j r, roles[j]? = some r → wo.cell? ⟨g, j * 2, none⟩ = some (.string r.name) ∧ ∃ u, wo.cell? ⟨g, j * 2 + 1, none⟩ = some u ∧ StrsAt wo u r.inc := by
              rcases h3 with e | e
              · rw [e] at hkl; simp at hkl
              · exact e
            subst ha
            obtain ⟨_, u, hcu, aU, capU, hu, _, hcells⟩ := h4 k r HR.out
            subst hu
            clear h4 h3
            obtain ⟨aV, capV, hvV⟩ := own_slice hown
            subst hvV
            by_cases hlj : j < r.inc.length
            · obtain ⟨gU, off, haU, h5⟩ : ∃ g off, aU = some ⟨g, off, none⟩ ∧ ∀ j x, r.inc[j]? = some x → wo.cell? ⟨g, off + j, none⟩ = some (.string x) := by
                rcases hcells with e | e
                · rw [e] at hlj; simp at hlj
                · exact e
              subst haU
              have hzx := List.getElem?_eq_getElem hlj
              have hcz := h5 j _ hzx
              have HD := hide (List.drop_eq_getElem_cons hlj)
              have HZ := hide (HSUB.out r.inc[j] (List.getElem_mem hlj))
              clear h5 hcells hzx
              have hlj2 : j + 1 ≤ r.inc.length := hlj
              generalize r.inc[j] = z at *
              have hm := member_any z _ l' wo (StrsAt.of_own hown) (by omega)
              cases hz : memB z l'
              · rw [hz] at hm
                have hml := missing_lt _ l' z HZ.out hz
                have HA2 := hide (show addIn r.inc l = addIn (r.inc.drop (j + 1)) (l' ++ [z]) from by rw [HA.out, HD.out, addIn_cons, hz]; rfl)
                clear hz
                go_wp2_with fail
                refine hm.mono ?_
                clear hm
                rintro e w' ⟨rfl, hw'⟩
                have hw' := hw'.symm
                subst hw'
                go_wp2_with (at_builtin; refine wpList_append_own _ rfl _ _ 50 rfl (w.heap.size + 1) 9 i0 _ 1 16 Tryz.underlying50 hi hz0 hz1 hz2 rfl (by decide) _ _ _ rfl (hown.alloc _) ⟨wo.heap.size, 0, none⟩ 1 1 [.string z] rfl rfl (cell_one_new _ _ _) (fun u hu => by simp at hu; subst hu; rfl) (by unfold maxLen; omega) (by omega) (by simp; omega) ?_; intro v' x3 hown' hgrow _)
                have hbel' : Below (w.heap.size + 1) (w.alloc (.cells #[.slice (some ⟨gR, 0, none⟩) roles.length cap, .slice aD nD cD] 62)) x3 := Below.grown (hbel.alloc (by omega) _) hgrow (by simp; omega) (fun k hk => (hown.lt k hk).1)
                go_roundg (r.inc.length - (j + 1))
                case measure => omega
                case rel => exact ⟨j + 1, l' ++ [z], by go_num, by omega, Nat.le_refl _, by simpa [strsV] using hown', hbel', by simp; omega, HA2.out⟩
              · rw [hz] at hm
                have HA2 := hide (show addIn r.inc l = addIn (r.inc.drop (j + 1)) l' from by rw [HA.out, HD.out, addIn_cons, hz]; rfl)
                clear hz
                go_wp2_with fail
                refine hm.mono ?_
                clear hm
                rintro e w' ⟨rfl, hw'⟩
                have hw' := hw'.symm
                subst hw'
                go_wp2_with fail
                go_roundg (r.inc.length - (j + 1))
                case measure => omega
                case rel => exact ⟨j + 1, l', by go_num, by omega, Nat.le_refl _, hown, hbel, hbd, HA2.out⟩
            · have HE := hide (show addIn r.inc l = l' from by rw [HA.out, List.drop_of_length_le (by omega)]; rfl)
              have hb2 := HB.out
              rw [HE.out] at HST HMU hb2
              go_wp2_with fail
              go_roundg (mu roles (i + 1) l')
              case measure => have := HMU.out; omega
              case rel => exact ⟨i + 1, l', by go_num, by omega, Nat.le_refl _, hown, hbel, hbd, by rw [HM.out, HST.out]⟩
    · go_wp2_with fail
      go_ret
      have HE := hide (show hadR roles x = l from by rw [HM.out, hadF_end roles i l (by omega)])
      exact ⟨_, rfl, by rw [HE.out]; exact ownsRow_lower hown (by omega), by rw [HE.out]; omega, hlow⟩
end Go.Proofs.YtpggfgjongkihaaGreat
namespace Go.Proofs.YtpggfgjongkihaaGreat
open Go.RowKit
def incOk (roles : List RRole) (r : RRole) (x : ByteArray) : Bool := decide (0 ≤ idxI (roles.map RRole.name) x) && !memB r.name (hadR roles x)
def roleOk (roles : List RRole) (r : RRole) : Bool := r.inc.all (incOk roles r)
def rolesR (roles : List RRole) : Bool := roles.all (roleOk roles) && apartB (roles.map RRole.name)
theorem RolesAt.at {w : World} {a : Option Addr} {cap : Nat} {l : List RRole} {i : Nat} {r : RRole} (h : RolesAt w (.slice a l.length cap) l) (hi : l[i]? = some r) : ∃ g aU capU, a = some ⟨g, 0, none⟩ ∧ w.cell? ⟨g, i * 2, none⟩ = some (.string r.name) ∧ w.cell? ⟨g, i * 2 + 1, none⟩ = some (.slice aU r.inc.length capU) ∧ StrsAt w (.slice aU r.inc.length capU) r.inc := by
  obtain ⟨a', cap', e1, h3⟩ := h
  cases e1
  rcases h3 with e | ⟨g, e, h4⟩
  · rw [e] at hi; simp at hi
  · obtain ⟨c0, u, c1, aU, capU, hu, h5, h6⟩ := h4 i r hi
    subst hu
    exact ⟨g, aU, capU, e, c0, c1, aU, capU, rfl, h5, h6⟩
theorem StrsAt.at {w : World} {a : Option Addr} {cap i : Nat} {l : List ByteArray} {x : ByteArray} (h : StrsAt w (.slice a l.length cap) l) (hi : l[i]? = some x) : ∃ g off, a = some ⟨g, off, none⟩ ∧ w.cell? ⟨g, off + i, none⟩ = some (.string x) := by
  obtain ⟨a', cap', e1, h2, h3⟩ := h
  cases e1
  rcases h3 with e | ⟨g, off, e, h4⟩
  · rw [e] at hi; simp at hi
  · exact ⟨g, off, e, h4 i x hi⟩
theorem idx_name (roles : List RRole) (x : ByteArray) (k : Nat) (r : RRole) (h : idxI (roles.map RRole.name) x = k) (hr : roles[k]? = some r) : r.name = x := by
  have key : ∀ (l : List ByteArray) (n k : Nat), idxF l x n = ((n + k : Nat) : Int) → l[k]? = some x := by
    intro l
    induction l with
    | nil => intro n k hk; rw [idxF] at hk; omega
    | cons y l ih =>
      intro n k hk
      rw [idxF] at hk
      by_cases e : y = x
      · rw [if_pos e] at hk
        have : k = 0 := by omega
        subst this; simp [e]
      · rw [if_neg e] at hk
        match k with
        | 0 =>
          exfalso
          have hge : ∀ (l : List ByteArray) (m : Nat), idxF l x m = -1 ∨ (m : Int) ≤ idxF l x m := by
            intro l
            induction l with
            | nil => intro m; left; rfl
            | cons z l ih2 =>
              intro m
              rw [idxF]
              split
              · right; omega
              · rcases ih2 (m + 1) with h | h
                · left; exact h
                · right; omega
          rcases hge l (n + 1) with h | h <;> omega
        | k + 1 =>
          have := ih (n + 1) k (by rw [hk]; congr 1; omega)
          simpa using this
  have := key _ 0 k (by rw [Nat.zero_add]; exact h)
  rw [List.getElem?_map, hr] at this
  exact Option.some.inj this
theorem all_take_snoc {α : Type} (p : α → Bool) (l : List α) (i : Nat) (x : α) (h : (l.take i).all p = true) (hx : l[i]? = some x) (hp : p x = true) : (l.take (i + 1)).all p = true := by
  rw [List.take_add_one, hx, List.all_append, h]; simp [hp]
theorem all_false {α : Type} (p : α → Bool) (l : List α) (i : Nat) (x : α) (hx : l[i]? = some x) (hp : p x = false) : l.all p = false := by
  cases h : l.all p
  · rfl
  · rw [List.all_eq_true] at h; rw [h x (List.mem_of_getElem? hx)] at hp; cases hp
set_option maxHeartbeats 2000000 in
set_option maxRecDepth 100000 in
theorem rolesRight_any (aD : Option Addr) (nD cD : Nat) (v : Value) (roles : List RRole) (w : World) (h : RolesAt w v roles) (hl : roles.length ≤ 801) (hU : (allInc roles).length ≤ 700000) :
    Calls Tryz.prog 73 #[.agg #[v, .slice aD nD cD]] w fun e w' => e = .returned (.bool (rolesR roles)) ∧ Below w.heap.size w w' := by
  obtain ⟨i0, hi, hz0, hz1, hz2⟩ := info_parts Tryz.info9
  have H0 := hide h
  obtain ⟨a, cap, rfl, _⟩ := h
  generalize hq : rolesR roles = q
  have HQ := hide hq
  clear hq
  go_enter Tryz.func73, Tryz.ntmps73
  go_wp2_with fail
  go_loopg [3, 4, 5, 6, 7, 8] roles.length (fun k v3 v4 v5 v6 v7 v8 wr => ∃ i : Nat, v4 = .int .i64 i ∧ i ≤ roles.length ∧ roles.length - i ≤ k ∧ wr.ownsRow (w.heap.size + 1) 9 1 v3 i (strsV ((roles.map RRole.name).take i)) ∧ Below (w.heap.size + 1) (w.alloc (.cells #[.slice a roles.length cap, .slice aD nD cD] 62)) wr ∧ (roles.take i).all (roleOk roles) = true)
  case atStart => exact ⟨0, rfl, Nat.zero_le _, Nat.le_refl _, World.ownsRow_nil _ _ _ _, Below.refl _ _, by simp⟩
  case round =>
    obtain ⟨i, rfl, hil, hik, hown, hbel, hall⟩ := hrel
    have HALL := hide hall
    clear hall
    obtain ⟨aL, capL, hvL⟩ := own_slice hown
    subst hvL
    have hbox0 : wr.cell? ⟨w.heap.size, 0, none⟩ = some (.slice a roles.length cap) := by rw [hbel.cell (by simp)]; simp
    have hlow : Below w.heap.size w wr := ((Below.refl _ _).alloc (Nat.le_refl _) _).trans (hbel.mono (by omega))
    have hszr : w.heap.size + 1 ≤ wr.heap.size := by have := hbel.size; simp at this; omega
    by_cases hlt : i < roles.length
    · have hx := List.getElem?_eq_getElem hlt
      generalize roles[i] = r at *
      obtain ⟨gR, aU, capU, ha, c0, c1, _⟩ := (H0.out.below hlow).at hx
      subst ha
      have hrl : r.inc.length ≤ 700000 := Nat.le_trans (inc_le roles r (List.mem_of_getElem? hx)) hU
      have HX := hide hx
      clear hx
      have hlt2 : i + 1 ≤ roles.length := hlt
      go_wp2_with (at_builtin; refine wpList_append_own _ rfl _ _ 50 rfl (w.heap.size + 1) 9 i0 _ 1 16 Tryz.underlying50 hi hz0 hz1 hz2 rfl (by decide) _ _ _ rfl (hown.alloc _) ⟨wr.heap.size, 0, none⟩ 1 1 [.string r.name] rfl rfl (cell_one_new _ _ _) (fun u hu => by simp at hu; subst hu; rfl) (by unfold maxLen; omega) (by omega) (by simp; omega) ?_; intro v' x3 hown' hgrow _)
      have hbel3 : Below (w.heap.size + 1) (w.alloc (.cells #[.slice (some ⟨gR, 0, none⟩) roles.length cap, .slice aD nD cD] 62)) x3 := Below.grown (hbel.alloc (by omega) _) hgrow (by simp; omega) (fun k hk => (hown.lt k hk).1)
      have hown3 : x3.ownsRow (w.heap.size + 1) 9 1 v' (i + 1) (strsV ((roles.map RRole.name).take (i + 1))) := by
        rw [List.take_add_one, List.getElem?_map, HX.out]
        simpa [strsV] using hown'
      clear hown' hgrow hown hbel c0 c1 hbox0 hlow hszr
      go_loopg [5, 6, 7, 8] r.inc.length (fun k v5 v6 v7 v8 wr => ∃ j : Nat, v5 = .int .i64 j ∧ j ≤ r.inc.length ∧ r.inc.length - j ≤ k ∧ wr.ownsRow (w.heap.size + 1) 9 1 v' (i + 1) (strsV ((roles.map RRole.name).take (i + 1))) ∧ Below (w.heap.size + 1) (w.alloc (.cells #[.slice (some ⟨gR, 0, none⟩) roles.length cap, .slice aD nD cD] 62)) wr ∧ (r.inc.take j).all (incOk roles r) = true)
      case atStart => exact ⟨0, rfl, Nat.zero_le _, Nat.le_refl _, hown3, hbel3, by simp⟩
      case round =>
        clear hown3 hbel3
        obtain ⟨wo, rfl⟩ : ∃ wo : World, wo = wr := ⟨_, rfl⟩
        obtain ⟨j, rfl, hj, hjk, hown, hbel, hall⟩ := hrel
        have HJ := hide hall
        clear hall
        have hb0 : wo.cell? ⟨w.heap.size, 0, none⟩ = some (.slice (some ⟨gR, 0, none⟩) roles.length cap) := by rw [hbel.cell (by simp)]; simp
        have hb1 : wo.cell? ⟨w.heap.size, 1, none⟩ = some (.slice aD nD cD) := by rw [hbel.cell (by simp)]; simp
        have hlow : Below w.heap.size w wo := ((Below.refl _ _).alloc (Nat.le_refl _) _).trans (hbel.mono (by omega))
        have hszo : w.heap.size + 1 ≤ wo.heap.size := by have := hbel.size; simp at this; omega
        obtain ⟨gR', aU2, capU2, ha, c0, c1, hst⟩ := (H0.out.below hlow).at HX.out
        cases ha
        by_cases hlj : j < r.inc.length
        · have hzx := List.getElem?_eq_getElem hlj
          have hlj2 : j + 1 ≤ r.inc.length := hlj
          generalize r.inc[j] = z at *
          obtain ⟨gU, off, haU, hcz⟩ := hst.at hzx
          subst haU
          have HZ := hide hzx
          have hc : ∀ W, Below wo.heap.size wo W → Calls Tryz.prog 28 #[.agg #[.slice (some ⟨gR, 0, none⟩) roles.length cap, .slice aD nD cD], .string z] W fun e w' => e = .returned (.int .i64 (idxI (roles.map RRole.name) z)) ∧ Below W.heap.size W w' := fun W hW =>
            xrole_any aD nD cD _ z (roles.map RRole.name) W ((H0.out.below (hlow.trans (hW.mono hlow.size))).names) (by simp; omega)
          have HC := hide hc
          clear hc hzx hst
          go_upto_region 9 with fail
          go_cut [6] (fun v6 wc => v6 = .int .i64 (idxI (roles.map RRole.name) z) ∧ Below wo.heap.size wo wc)
          case first =>
            go_region_with (go_at_call 28; refine (HC.out _ ?_).mono ?_; (first | exact (Below.refl _ _).drew | exact Below.refl _ _); rintro e w' ⟨rfl, hb'⟩)
            all_goals (try go_wp2_with fail)
            all_goals (go_meet; exact ⟨rfl, (Below.refl _ _).drew.trans hb'⟩)
          case rest =>
            obtain ⟨rfl, hbc⟩ := hcut
            have hownc := ownsRow_below hown hbc
            have hbelc := hbel.trans (hbc.mono hszo)
            have hx0 : wc.cell? ⟨w.heap.size, 0, none⟩ = some (.slice (some ⟨gR, 0, none⟩) roles.length cap) := by rw [hbelc.cell (by simp)]; simp
            have hx1 : wc.cell? ⟨w.heap.size, 1, none⟩ = some (.slice aD nD cD) := by rw [hbelc.cell (by simp)]; simp
            have hlowc : Below w.heap.size w wc := hlow.trans (hbc.mono hlow.size)
            have hszc := hbc.size
            clear hb0 hb1 hown hbel hbc hcz c0 c1 HC
            by_cases hneg : idxI (roles.map RRole.name) z < 0
            · have HF := hide (show rolesR roles = false from by
                unfold rolesR
                rw [all_false _ _ _ _ HX.out (show roleOk roles r = false from all_false _ _ _ _ HZ.out (by unfold incOk; rw [decide_eq_false (by omega)]; rfl)), Bool.false_and])
              generalize idxI (roles.map RRole.name) z = q0 at *
              go_wp2_with fail
              go_ret
              exact ⟨ret_bool (by rw [← HQ.out, HF.out]), hlowc⟩
            · obtain ⟨n, rn, hn, hrn, _⟩ := idx_lt roles z hneg
              have hzn := idx_name roles z n rn hn hrn
              obtain ⟨gR2, aW, capW, ha2, d0, _, _⟩ := (H0.out.below hlowc).at hrn
              cases ha2
              rw [hzn] at d0
              have hnl : n < roles.length := (List.getElem?_eq_some_iff.1 hrn).1
              have HNN := hide (show 0 ≤ idxI (roles.map RRole.name) z from by omega)
              rw [hn]
              have hc2 : ∀ W, Below wc.heap.size wc W → Calls Tryz.prog 91 #[.agg #[.slice (some ⟨gR, 0, none⟩) roles.length cap, .slice aD nD cD], .string z] W fun e w' => ∃ u, e = .returned u ∧ w'.ownsRow W.heap.size 9 1 u (hadR roles z).length (strsV (hadR roles z)) ∧ (hadR roles z).length ≤ 700001 ∧ Below W.heap.size W w' := fun W hW =>
                had_any aD nD cD _ z roles W (H0.out.below (hlowc.trans (hW.mono hlowc.size))) hl hU
              have HC2 := hide hc2
              clear hc2 hn hrn hzn hneg
              go_upto_region 12 with fail
              go_cut [7] (fun v7 wd => wd.ownsRow 0 9 1 v7 (hadR roles z).length (strsV (hadR roles z)) ∧ (hadR roles z).length ≤ 700001 ∧ Below wc.heap.size wc wd)
              case first =>
                go_region_with (go_at_call 91; refine (HC2.out _ ?_).mono ?_; (first | exact (Below.refl _ _).drew | exact Below.refl _ _); rintro e w' ⟨u, rfl, ho, hlen, hb'⟩)
                all_goals (try go_wp2_with fail)
                all_goals (go_meet; exact ⟨ownsRow_lower ho (Nat.zero_le _), hlen, (Below.refl _ _).drew.trans hb'⟩)
              case rest =>
                obtain ⟨wd, hwd⟩ : ∃ wd, wd = wc := ⟨_, rfl⟩
                subst hwd
                obtain ⟨ho, hlen, hbd⟩ := hcut
                have hownd := ownsRow_below hownc hbd
                have hbeld := hbelc.trans (hbd.mono (by omega))
                have hy0 : wd.cell? ⟨w.heap.size, 0, none⟩ = some (.slice (some ⟨gR, 0, none⟩) roles.length cap) := by rw [hbeld.cell (by simp)]; simp
                have hlowd : Below w.heap.size w wd := hlowc.trans (hbd.mono hlowc.size)
                obtain ⟨gR3, aX, capX, ha3, f0, _, _⟩ := (H0.out.below hlowd).at HX.out
                cases ha3
                have hm := member_any r.name _ _ wd (StrsAt.of_own ho) (by omega)
                obtain ⟨aV, capV, hvV⟩ := own_slice ho
                subst hvV
                clear hownc hbelc hx0 hx1 d0 HC2
                cases hz : memB r.name (hadR roles z)
                · rw [hz] at hm
                  have HOK := hide (show incOk roles r z = true from by unfold incOk; rw [decide_eq_true HNN.out, hz]; rfl)
                  clear hz
                  go_wp2_with fail
                  refine hm.mono ?_
                  clear hm
                  rintro e w' ⟨rfl, hw'⟩
                  have hw' := hw'.symm
                  subst hw'
                  go_wp2_with fail
                  go_roundg (r.inc.length - (j + 1))
                  case measure => omega
                  case rel => exact ⟨j + 1, by go_num, hlj2, Nat.le_refl _, hownd, hbeld, all_take_snoc _ _ _ _ HJ.out HZ.out HOK.out⟩
                · rw [hz] at hm
                  have HF := hide (show rolesR roles = false from by
                    unfold rolesR
                    rw [all_false _ _ _ _ HX.out (show roleOk roles r = false from all_false _ _ _ _ HZ.out (by unfold incOk; rw [hz]; simp)), Bool.false_and])
                  clear hz
                  go_wp2_with fail
                  refine hm.mono ?_
                  clear hm
                  rintro e w' ⟨rfl, hw'⟩
                  have hw' := hw'.symm
                  subst hw'
                  go_wp2_with fail
                  go_ret
                  exact ⟨ret_bool (by rw [← HQ.out, HF.out]), hlowd⟩
        · have HE := hide (show roleOk roles r = true from by have := HJ.out; rw [List.take_of_length_le (by omega)] at this; exact this)
          go_wp2_with fail
          go_roundg (roles.length - (i + 1))
          case measure => omega
          case rel => exact ⟨i + 1, by go_num, hlt2, Nat.le_refl _, hown, hbel, all_take_snoc _ _ _ _ HALL.out HX.out HE.out⟩
    · have e : i = roles.length := by omega
      subst e
      have hlen : ((roles.map RRole.name).take roles.length) = roles.map RRole.name := List.take_of_length_le (by simp)
      rw [hlen] at hown
      have hs : StrsAt wr _ (roles.map RRole.name) := StrsAt.of_own (base := w.heap.size + 1) (by simpa using hown)
      have hc := apart_any _ (roles.map RRole.name) wr hs (by simp; omega)
      have HR := hide (show rolesR roles = apartB (roles.map RRole.name) from by
        unfold rolesR; have := HALL.out; rw [List.take_length] at this; rw [this, Bool.true_and])
      clear hlen
      go_wp2_with fail
      refine hc.mono ?_
      clear hc
      rintro e w1 ⟨rfl, hb1⟩
      go_wp2_with fail
      go_ret
      exact ⟨ret_bool (by rw [← HQ.out, HR.out]), hlow.trans (hb1.mono hlow.size)⟩
end Go.Proofs.YtpggfgjongkihaaGreat
namespace Go.Proofs.YtpggfgjongkihaaGreat
open Go.RowKit
/-- the leaves that a look over a rule's tokens meets: (true, a role), (false, a field) -/
def rl : List Tk → List (Bool × ByteArray)
  | [] => []
  | [_] => []
  | t :: u :: r =>
    if t.k = 1 then
      if u.k = 10 then (false, t.s) :: rl (r.drop 1)
      else if t.s = bIs then (true, u.s) :: rl r
      else rl (u :: r)
    else rl (u :: r)
  termination_by l => l.length
  decreasing_by all_goals (simp; try omega)
/-- the look never comes to an 'is' that is the last token -/
def rlOk : List Tk → Bool
  | [] => true
  | [t] => !(decide (t.k = 1) && decide (t.s = bIs))
  | t :: u :: r =>
    if t.k = 1 then
      if u.k = 10 then rlOk (r.drop 1)
      else if t.s = bIs then decide (u.k = 1) && rlOk r
      else rlOk (u :: r)
    else rlOk (u :: r)
  termination_by l => l.length
  decreasing_by all_goals (simp; try omega)
theorem rl_skip (t : Tk) (r : List Tk) (h : t.k ≠ 1) : rl (t :: r) = rl r ∧ rlOk (t :: r) = rlOk r := by
  cases r with
  | nil => constructor
           · rw [rl, rl]
           · rw [rlOk, rlOk]; simp [h]
  | cons u r => constructor
                · rw [rl, if_neg h]
                · rw [rlOk, if_neg h]
theorem rl_eq (t u : Tk) (r : List Tk) (h : t.k = 1) (hu : u.k = 10) : rl (t :: u :: r) = (false, t.s) :: rl (r.drop 1) ∧ rlOk (t :: u :: r) = rlOk (r.drop 1) := by
  constructor
  · rw [rl, if_pos h, if_pos hu]
  · rw [rlOk, if_pos h, if_pos hu]
theorem rl_is (t u : Tk) (r : List Tk) (h : t.k = 1) (hu : u.k ≠ 10) (hs : t.s = bIs) : rl (t :: u :: r) = (true, u.s) :: rl r ∧ rlOk (t :: u :: r) = (decide (u.k = 1) && rlOk r) := by
  constructor
  · rw [rl, if_pos h, if_neg hu, if_pos hs]
  · rw [rlOk, if_pos h, if_neg hu, if_pos hs]
theorem rl_word (t : Tk) (r : List Tk) (hu : ∀ u, r.head? = some u → u.k ≠ 10) (hs : t.s ≠ bIs) : rl (t :: r) = rl r ∧ rlOk (t :: r) = rlOk r := by
  cases r with
  | nil => constructor
           · rw [rl, rl]
           · rw [rlOk, rlOk]; simp [hs]
  | cons u r =>
    have h := hu u rfl
    constructor
    · rw [rl, if_neg h, if_neg hs]; split <;> rfl
    · rw [rlOk, if_neg h, if_neg hs]; split <;> rfl
def isLs (t : ByteArray) : Bool := decide (t.data.toList.head? = some 91)
def fitF (f : RFld) : Bool := scalB (coreS f.ty) && (!isLs f.ty && (decide (f.arg = bE) && (decide (f.auth = bE) && decide (f.hide_ = bE))))
def fitR (l : List RFld) (n : ByteArray) : Bool := if idxI (l.map RFld.name) n < 0 then false else match l[(idxI (l.map RFld.name) n).toNat]? with
  | some f => fitF f
  | none => false
def leafR (roles : List ByteArray) (l : List RFld) (x : Bool × ByteArray) : Bool := if x.1 = true then decide (¬ idxI roles x.2 < 0) else fitR l x.2
theorem idx_at {α : Type} (g : α → ByteArray) (l : List α) (x : ByteArray) (h : ¬ idxI (l.map g) x < 0) : ∃ (k : Nat) (a : α), idxI (l.map g) x = k ∧ l[k]? = some a ∧ g a = x ∧ k < l.length := by
  have key : ∀ (l : List α) (n : Nat), ¬ idxF (l.map g) x n < 0 → ∃ (k : Nat) (a : α), idxF (l.map g) x n = ((n + k : Nat) : Int) ∧ l[k]? = some a ∧ g a = x := by
    intro l
    induction l with
    | nil => intro n hn; exact absurd (show (-1 : Int) < 0 by decide) hn
    | cons y l ih =>
      intro n hn
      rw [List.map_cons, idxF] at hn ⊢
      by_cases e : g y = x
      · rw [if_pos e]; exact ⟨0, y, by simp, by simp, e⟩
      · rw [if_neg e] at hn ⊢
        obtain ⟨k, a, h1, h2, h3⟩ := ih (n + 1) hn
        exact ⟨k + 1, a, by rw [h1]; congr 1; omega, by simpa using h2, h3⟩
  obtain ⟨k, a, h1, h2, h3⟩ := key l 0 h
  rw [Nat.zero_add] at h1
  exact ⟨k, a, h1, h2, h3, (List.getElem?_eq_some_iff.1 h2).1⟩
theorem fitR_neg (l : List RFld) (n : ByteArray) (h : idxI (l.map RFld.name) n < 0) : fitR l n = false := by unfold fitR; rw [if_pos h]
theorem fitR_at (l : List RFld) (n : ByteArray) (k : Nat) (f : RFld) (h : idxI (l.map RFld.name) n = k) (hf : l[k]? = some f) : fitR l n = fitF f := by
  unfold fitR
  rw [if_neg (by omega), h, Int.toNat_natCast, hf]
theorem TokSl.slice {w : World} {v : Value} {l : List Tk} (h : TokSl w v l) : ∃ a cap, v = .slice a l.length cap := by
  rcases h with ⟨h, rfl⟩ | ⟨g, off, cap, cur, h1, _⟩
  · exact ⟨none, 0, h⟩
  · exact ⟨_, _, h1⟩
theorem refToks_at : ∀ (l : List Tk) (i j : Nat) (t : Tk), l[i]? = some t → j < 3 → (refToks l)[i * 3 + j]? = (refTok t)[j]?
  | [], i, j, t, h, _ => by simp at h
  | x :: l, 0, j, t, h, hj => by
    simp at h
    subst h
    show (refTok x ++ refToks l)[0 * 3 + j]? = _
    rw [List.getElem?_append_left (by simp [refTok]; omega)]
    congr 1; omega
  | x :: l, i + 1, j, t, h, hj => by
    show (refTok x ++ refToks l)[(i + 1) * 3 + j]? = _
    rw [List.getElem?_append_right (by simp [refTok]; omega)]
    have := refToks_at l i j t (by simpa using h) hj
    rw [← this]
    congr 1
    simp [refTok]; omega
theorem TokSl.at {w : World} {a : Option Addr} {cap i : Nat} {l : List Tk} {t : Tk} (h : TokSl w (.slice a l.length cap) l) (hi : l[i]? = some t) : ∃ g off, a = some ⟨g, off, none⟩ ∧ w.cell? ⟨g, off + i * 3, none⟩ = some (.int .i64 (rk t.k)) ∧ w.cell? ⟨g, off + i * 3 + 1, none⟩ = some (.string (rs t)) := by
  rcases h with ⟨_, e⟩ | ⟨g, off, cap', cur, h1, h2, h3⟩
  · rw [e] at hi; simp at hi
  · cases h1
    have hil := (List.getElem?_eq_some_iff.1 hi).1
    have key : ∀ j, j < 3 → w.cell? ⟨g, off + i * 3 + j, none⟩ = (refTok t)[j]? := by
      intro j hj
      rw [cell_of_block h2, ← refToks_at l i j t hi hj, ← h3, List.getElem?_take_of_lt (by omega), List.getElem?_drop, Array.getElem?_toList]
      congr 1; omega
    exact ⟨g, off, rfl, key 0 (by omega), key 1 (by omega)⟩
theorem rk_mark (t : Tk) (ht : okT t) : (t.k = 10 ↔ (rk t.k = 4 ∧ rs t = ⟨#[61]⟩)) := by
  have h : (decide (rk t.k = 4) && decide (rs t = ⟨#[61]⟩)) = (t.k == 10) := isR_mark (some [t]) 10 (by decide) (by decide) (Or.inr ht)
  rw [Bool.eq_iff_iff] at h
  simp only [Bool.and_eq_true, decide_eq_true_eq, beq_iff_eq] at h
  exact h.symm
theorem FldsAt.at {w : World} {a : Option Addr} {cap i : Nat} {l : List RFld} {f : RFld} (h : FldsAt w (.slice a l.length cap) l) (hi : l[i]? = some f) : ∃ g, a = some ⟨g, 0, none⟩ ∧ w.cell? ⟨g, i * 5, none⟩ = some (.string f.name) ∧ w.cell? ⟨g, i * 5 + 1, none⟩ = some (.string f.arg) ∧ w.cell? ⟨g, i * 5 + 2, none⟩ = some (.string f.ty) ∧ w.cell? ⟨g, i * 5 + 3, none⟩ = some (.string f.auth) ∧ w.cell? ⟨g, i * 5 + 4, none⟩ = some (.string f.hide_) := by
  obtain ⟨a', cap', e1, h3⟩ := h
  cases e1
  rcases h3 with e | ⟨g, e, h4⟩
  · rw [e] at hi; simp at hi
  · exact ⟨g, e, h4 i f hi⟩
end Go.Proofs.YtpggfgjongkihaaGreat
