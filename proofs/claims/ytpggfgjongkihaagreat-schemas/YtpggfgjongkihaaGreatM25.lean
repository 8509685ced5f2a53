/- The program's checks: included. The program's checks: rolesRight. The program's checks: right; Read; Check. -/
import Derived.Test.YtpggfgjongkihaaGreatM24
import Derived.Deep.OwnRows
namespace Go.Proofs.YtpggfgjongkihaaGreat
open Go.RowKit
open Go.Maps
/-- what is open, and what was reached -/
abbrev OS := List Nat × List Bool
def incStep (nms : List ByteArray) (st : OS) (x : ByteArray) : OS := if st.2.getD (idxI nms x).toNat false = true then st else (st.1 ++ [(idxI nms x).toNat], st.2.set (idxI nms x).toNat true)
def incAtJ (roles : List RRole) (j : Nat) : List ByteArray := match roles[j]? with
  | some r => r.inc
  | none => []
def incRound (roles : List RRole) (st : OS) : OS := (incAtJ roles (st.1.getLastD 0)).foldl (incStep (roles.map RRole.name)) (st.1.dropLast, st.2)
def inclF (roles : List RRole) : Nat → OS → List Bool
  | 0, st => st.2
  | f + 1, st => if st.1.length = 0 then st.2 else inclF roles f (incRound roles st)
def falses (l : List Bool) : Nat := l.countP (fun x => !x)
def muI (st : OS) : Nat := 2 * falses st.2 + st.1.length
def boolsV (l : List Bool) : List Value := l.map Value.bool
def natsV (l : List Nat) : List Value := l.map fun j => Value.int .i64 (j : Nat)
theorem falses_set (l : List Bool) (j : Nat) (h : l[j]? = some false) : falses (l.set j true) + 1 = falses l := by
  unfold falses
  induction l generalizing j with
  | nil => simp at h
  | cons x l ih =>
    cases j with
    | zero => simp at h; subst h; simp
    | succ j =>
      simp only [List.set_cons_succ, List.countP_cons]
      have := ih j (by simpa using h)
      omega
theorem dropLast_take (l : List Nat) : l.dropLast = l.take (l.length - 1) := by rw [List.dropLast_eq_take]

theorem own_take {w : World} {base n cap m g : Nat} {e : TypeId} {xs : List Value} (h : w.ownsRow base e 1 (.slice (some ⟨g, 0, none⟩) n cap) n xs) (hm : m ≤ n) : w.ownsRow base e 1 (.slice (some ⟨g, 0, none⟩) m cap) m (xs.take m) := by
  have hl := h.1
  rcases h.2 with ⟨e0, _⟩ | ⟨g', cap', cur, hv, hg, hh, h1, h2, h3, h4⟩
  · cases e0
  · cases hv
    refine ⟨by rw [List.length_take]; omega, Or.inr ⟨_, _, cur, rfl, hg, hh, by omega, h2, h3, ?_⟩⟩
    rw [← h4, List.take_take, Nat.mul_one, Nat.min_eq_left (by omega)]
theorem OwnM.below {w w' : World} {M n : Nat} {D : DataW Unit} (h : OwnM w M n D) (hb : Below w.heap.size w w') : OwnM w' M n D :=
  World.ownsMap.kept h ⟨hb.os, hb.tape, hb.output, hb.size, fun i hi _ => hb.block i hi⟩ (by simp : some M ≠ none)
theorem idx_nodup (l : List ByteArray) (x : ByteArray) (j : Nat) (hn : l.Nodup) (hj : l[j]? = some x) : idxI l x = j := by
  unfold idxI
  rw [idxF_at l x 0 j (fun y hy e => by
    subst e
    obtain ⟨i, hi⟩ := List.mem_iff_getElem?.1 hy
    have h1 : i < j := by
      have := (List.getElem?_eq_some_iff.1 hi).1
      simp at this; omega
    rw [List.getElem?_take_of_lt h1] at hi
    have := (List.getElem?_inj (List.getElem?_eq_some_iff.1 hi).1 hn).1 (hi.trans hj.symm)
    omega) hj]
  simp
theorem Tryz.info3 : (Tryz.prog.info? 3).map (fun i => (i.zero, i.size, i.bytes)) = some (some (.int .i64 0), 1, 8) := by kernel_rfl
theorem Tryz.info4 : (Tryz.prog.info? 4).map (fun i => (i.zero, i.size, i.bytes)) = some (some (.bool false), 1, 1) := by kernel_rfl
theorem made_bools (n : Nat) : madeCells #[Value.bool false] n = (boolsV (List.replicate n false)).toArray := by
  apply Array.toList_inj.1
  rw [toList_madeCells_one]; simp [boolsV]
theorem muI_step (nms : List ByteArray) (st : OS) (x : ByteArray) (h : (idxI nms x).toNat < st.2.length) : muI (incStep nms st x) ≤ muI st ∧ (incStep nms st x).2.length = st.2.length := by
  unfold incStep
  split
  · exact ⟨Nat.le_refl _, rfl⟩
  · rename_i hf
    have h1 : st.2[(idxI nms x).toNat]? = some false := by
      rw [List.getD_eq_getElem?_getD, List.getElem?_eq_getElem h] at hf
      rw [List.getElem?_eq_getElem h]; simpa using hf
    have := falses_set st.2 _ h1
    refine ⟨?_, by simp⟩
    unfold muI
    simp only [List.length_append, List.length_cons, List.length_nil]
    omega
set_option maxHeartbeats 4000000 in
set_option maxRecDepth 100000 in
theorem included_any (w : World) (S : Nat) (vR vO vI vU vN : Value) (LR : List (RRole × Value)) (LO : List (PObj × Value × Value × Value)) (LI : List (PIf × Value)) (LU : List (PUn × Value)) (names : List ByteArray) (place M nM : Nat) (D : DataW Unit) (h : SV w S vR vO vI vU vN LR LO LI LU names) (hM : OwnM w M nM D) (hpm : PM (LR.map rN) D) (hnd : (LR.map rN).Nodup) (hinc : ∀ x ∈ LR, ∀ y ∈ x.1.inc, y ∈ LR.map rN ∧ y.size ≤ 4000) (hp : place < LR.length) :
    Calls Tryz.prog 81 #[.pointer (some ⟨S, 0, none⟩), .int .i64 place, .map (some M)] w fun e w' => e = .returned (.slice (some ⟨w.heap.size, 0, none⟩) LR.length LR.length) ∧ w'.heap[w.heap.size]? = some (.cells (boolsV (inclF (LR.map Prod.fst) (2 * LR.length + 1) ([place], List.replicate LR.length false))).toArray 4 (0, 0)) ∧ Below w.heap.size w w' := by
  obtain ⟨i0, hi, hz0, hz1, hz2⟩ := info_parts Tryz.info3
  have hlr := h.lr
  have hmk := run_make_row' (P := Tryz.prog) 156 4 (.bool false) 1 Tryz.underlying156 Tryz.info4 rfl .i64 .i64 LR.length (by omega) (by omega)
  have H0 := hide h
  have HM := hide hM
  have HPM := hide hpm
  have HND := hide hnd
  have HINC := hide hinc
  have hSl := lt_of_block h.sc
  obtain ⟨aR, cR, hv⟩ := own_slice h.r.own
  subst hv
  have c0 : w.cell? ⟨S, 0, none⟩ = some (.slice aR LR.length cR) := cell_of_block h.sc 0
  generalize hFF : inclF (LR.map Prod.fst) (2 * LR.length + 1) ([place], List.replicate LR.length false) = FF at *
  have HFF := hide hFF
  clear h hM hpm hnd hinc hFF
  go_enter Tryz.func81, Tryz.ntmps81
  go_wp2_with fail
  have hbo : Below w.heap.size w ((w.alloc (.cells (madeCells #[.bool false] LR.length) 4)).alloc (.cells #[.int .i64 place] 3)) := two_below _ _ _
  have hr0 := two_R w (.cells (madeCells #[.bool false] LR.length) 4 (0, 0)) (.cells #[.int .i64 place] 3 (0, 0))
  have ho0 : ((w.alloc (.cells (madeCells #[.bool false] LR.length) 4)).alloc (.cells #[.int .i64 place] 3)).ownsRow (w.heap.size + 1) 3 1 (.slice (some ⟨w.heap.size + 1, 0, none⟩) 1 1) [place].length (natsV [place]) := ⟨rfl, Or.inr ⟨_, 1, _, rfl, Nat.le_refl _, two_F _ _ _, Nat.le_refl _, by decide, rfl, rfl⟩⟩
  rw [made_bools] at hbo hr0 ho0 ⊢
  generalize ((w.alloc (.cells (boolsV (List.replicate LR.length false)).toArray 4)).alloc (.cells #[.int .i64 place] 3)) = wl at *
  go_loopg [8, 9, 10, 12, 13, 42, 43, 44] (muI ([place], List.replicate LR.length false)) (fun kk v8 v9 v10 v12 v13 v42 v43 v44 wr => ∃ (op : List Nat) (bs : List Bool) (f : Nat), muI (op, bs) ≤ kk ∧ muI (op, bs) ≤ f ∧ muI (op, bs) ≤ 2000 ∧ wr.ownsRow (w.heap.size + 1) 3 1 v8 op.length (natsV op) ∧ wr.heap[w.heap.size]? = some (.cells (boolsV bs).toArray 4 (0, 0)) ∧ bs.length = LR.length ∧ (∀ j ∈ op, j < LR.length) ∧ Below w.heap.size w wr ∧ FF = inclF (LR.map Prod.fst) f (op, bs))
  case atStart =>
    have hmu : muI ([place], List.replicate LR.length false) = 2 * LR.length + 1 := by unfold muI falses; simp [List.countP_replicate]
    exact ⟨[place], List.replicate LR.length false, 2 * LR.length + 1, Nat.le_refl _, by omega, by omega, ho0, hr0, by simp, by simpa using hp, hbo, HFF.out.symm⟩
  case round =>
    clear hbo hr0 ho0
    obtain ⟨wo, rfl⟩ : ∃ wo : World, wo = wr := ⟨_, rfl⟩
    obtain ⟨op, bs, f, hmk1, hmf, hm2, hown, hbl, hbs, hop, hb, hrel⟩ := hrel
    have HR := hide hrel
    have HOP := hide hop
    have HBL := hide hbl
    have hbz := lt_of_block hbl
    clear hrel hop hbl
    obtain ⟨aO, cO, hvO⟩ := own_slice hown
    subst hvO
    have hopl : op.length ≤ 2000 := by unfold muI at hm2; simp only [] at hm2; omega
    by_cases hne : op.length = 0
    · have HE := hide (show FF = bs from by
        rw [HR.out]
        cases f with
        | zero => rfl
        | succ f => rw [inclF, if_pos hne])
      have t0 : ¬ (0 : Int) < (op.length : Int) := by omega
      clear HR
      go_wp2_with fail
      go_ret
      exact ⟨rfl, by rw [HE.out]; exact HBL.out, hb⟩
    · have t0 : (0 : Int) < (op.length : Int) := by omega
      obtain ⟨g, haO⟩ : ∃ g, aO = some ⟨g, 0, none⟩ := by
        rcases hown.2 with ⟨e, e0⟩ | ⟨g, cap, cur, hv, _⟩
        · omega
        · cases hv; exact ⟨g, rfl⟩
      subst haO
      have hlast : op.length - 1 < op.length := by omega
      have hxl := List.getElem?_eq_getElem hlast
      have hcl : wo.cell? ⟨g, op.length - 1, none⟩ = some (.int .i64 (op[op.length - 1] : Nat)) := by
        have := hown.cellAt (op.length - 1) (by omega)
        simpa [natsV, hxl] using this
      have hidx : op[op.length - 1] < LR.length := HOP.out _ (List.getElem_mem _)
      have HLD := hide (show op.getLastD 0 = op[op.length - 1] from by
        rw [List.getLastD_eq_getLast?, List.getLast?_eq_getElem?, hxl]; rfl)
      have hsv := H0.out.below hb
      have cS : wo.cell? ⟨S, 0, none⟩ = some (.slice aR LR.length cR) := cell_of_block hsv.sc 0
      have htake := own_take hown (m := op.length - 1) (by omega)
      have hcapO : op.length ≤ cO := by
        rcases hown.2 with ⟨e, e0⟩ | ⟨g', cap', cur, hv, _, _, hn1, _⟩
        · omega
        · cases hv; exact hn1
      clear hxl
      generalize hgi : op[op.length - 1] = ix at *
      clear hgi
      have hxr := List.getElem?_eq_getElem hidx
      obtain ⟨gR, capR, hvR, hcc⟩ := hsv.r.cell (fun _ => rfl) ix _ hxr
      cases hvR
      have hokr := hsv.r.ok _ (List.mem_of_getElem? hxr)
      have d0 : wo.cell? ⟨gR, ix * 2, none⟩ = some (.string LR[ix].1.name) := by simpa using hcc 0 _ rfl
      have d1 : wo.cell? ⟨gR, ix * 2 + 1, none⟩ = some LR[ix].2 := hcc 1 _ rfl
      have hincr := HINC.out _ (List.mem_of_getElem? hxr)
      have hokw := (H0.out.r.ok _ (List.mem_of_getElem? hxr)).1
      have HIJ := hide (show incAtJ (LR.map Prod.fst) ix = LR[ix].1.inc from by unfold incAtJ; rw [List.getElem?_map, hxr]; rfl)
      clear hcc hxr
      generalize LR[ix] = rr at *
      obtain ⟨⟨rn, rinc⟩, rv⟩ := rr
      obtain ⟨hri, hrl⟩ := hokr
      simp only [] at *
      obtain ⟨aI, cI, rfl⟩ := own_slice hri
      have HGL := hide (show (op.dropLast).length + 1 = op.length from by rw [List.length_dropLast]; omega)
      have HDT := hide (show natsV op.dropLast = (natsV op).take (op.length - 1) from by unfold natsV; rw [dropLast_take, List.map_take])
      have HNE := hide hne
      have HINCL := hide (show ∀ f', inclF (LR.map Prod.fst) (f' + 1) (op, bs) = inclF (LR.map Prod.fst) f' (incRound (LR.map Prod.fst) (op, bs)) from fun f' => by rw [inclF, if_neg hne])
      have hm1 : muI (op.dropLast, bs) + 1 = muI (op, bs) := by unfold muI; simp only []; have := HGL.out; omega
      have HRR := hide (show incRound (LR.map Prod.fst) (op, bs) = rinc.foldl (incStep (LR.map rN)) (op.dropLast, bs) from by
        unfold incRound
        simp only []
        rw [HLD.out, HIJ.out, List.map_map]; rfl)
      generalize hgl : op.length = ol at *
      clear hne hlast hgl
      obtain ⟨m, rfl⟩ : ∃ m, ol = m + 1 := ⟨ol - 1, by have := HNE.out; omega⟩
      simp only [Nat.add_sub_cancel] at *
      have hdl : op.dropLast.length = m := by have := HGL.out; omega
      have hb0 := hb.size
      have hix0 : (0 : Int) ≤ (ix : Int) := by omega
      have hix1 : (ix : Int) < (LR.length : Int) := by omega
      have zg : g < wo.heap.size := World.block_lt_of_cell? wo _ hcl
      have zR : gR < wo.heap.size := World.block_lt_of_cell? wo _ d0
      have zS : S < wo.heap.size := World.block_lt_of_cell? wo _ cS
      go_upto_region 5 with fail
      go_cut [10] (fun v10 wc => v10 = .pointer (some ⟨wo.heap.size, 0, none⟩) ∧ wc.heap[wo.heap.size]? = some (.cells #[.string rn, .slice aI rinc.length cI] 154 (0, 0)) ∧ Below wo.heap.size wo wc)
      case first =>
        go_region
        all_goals (try go_wp2_with fail)
        all_goals (
          go_meet
          exact ⟨rfl, heap_alloc_new _ _, ((Below.refl _ _).alloc (Nat.le_refl _) _).drew⟩)
      case rest =>
        obtain ⟨rfl, hcn, hbc⟩ := hcut
        have hstr := StrsAt.of_own hokw
        have HSTR := hide hstr
        have hbwc : Below w.heap.size w wc := hb.trans (hbc.mono hb.size)
        have hownc := ownsRow_below htake (hbc.mono (Nat.le_refl _))
        have hblc := (hbc.block _ hbz).trans HBL.out
        have cn1 : wc.cell? ⟨wo.heap.size, 1, none⟩ = some (.slice aI rinc.length cI) := cell_of_block hcn 1
        have hown2 : wc.ownsRow (w.heap.size + 1) 3 1 (.slice (some ⟨g, 0, none⟩) m cO) op.dropLast.length (natsV op.dropLast) := by rw [HDT.out, hdl]; exact hownc
        have HO2 := hide hown2
        have HBLC := hide hblc
        have HHOP := hide (show ∀ j ∈ op.dropLast, j < LR.length from fun j hj => HOP.out j ((List.dropLast_sublist op).subset hj))
        have HHDL := hide hdl
        have hrl' : rinc.length ≤ 803 := hrl
        clear hown hownc hblc htake hcl d0 d1 cS hcn hri hokw hstr hsv hown2 hdl
        go_wp2_with fail
        go_loopg [8, 12, 13, 44] rinc.length (fun kk v8 v12 v13 v44 wr => ∃ (i : Nat) (op' : List Nat) (bs' : List Bool), v44 = .int .i64 i ∧ i ≤ rinc.length ∧ rinc.length - i ≤ kk ∧ wr.ownsRow (w.heap.size + 1) 3 1 v8 op'.length (natsV op') ∧ wr.heap[w.heap.size]? = some (.cells (boolsV bs').toArray 4 (0, 0)) ∧ bs'.length = LR.length ∧ (∀ j ∈ op', j < LR.length) ∧ Below w.heap.size w wr ∧ muI (op', bs') ≤ muI (op.dropLast, bs) ∧ (rinc.take i).foldl (incStep (LR.map rN)) (op.dropLast, bs) = (op', bs'))
        case atStart => exact ⟨0, op.dropLast, bs, rfl, Nat.zero_le _, by omega, by rw [HHDL.out]; have := HO2.out; rw [HHDL.out] at this; exact this, HBLC.out, hbs, HHOP.out, hbwc, Nat.le_refl _, by simp⟩
        case round =>
          clear HO2 HBLC hbwc cn1 hbc
          obtain ⟨i, op', bs', rfl, hii, hik, hown, hbl, hbs', hop', hbw, hmu, hfold⟩ := hrel
          have HOP' := hide hop'
          have HFOLD := hide hfold
          have HBL' := hide hbl
          clear hop' hfold
          have hbz' := lt_of_block hbl
          obtain ⟨aO', cO', hvO'⟩ := own_slice hown
          subst hvO'
          have hop2 : op'.length ≤ 2000 := by unfold muI at hmu hm2 hm1; simp only [] at hmu hm2 hm1; omega
          by_cases hlti : i < rinc.length
          · have hxi := List.getElem?_eq_getElem hlti
            obtain ⟨a', cap', e1, _, h3⟩ := HSTR.out.below hbw
            cases e1
            obtain ⟨gs, off, ha, h4⟩ : ∃ g off, aI = some ⟨g, off, none⟩ ∧ ∀ (j : Nat) (x : ByteArray), rinc[j]? = some x → wr.cell? ⟨g, off + j, none⟩ = some (.string x) := by
              rcases h3 with e | e
              · rw [e] at hlti; simp at hlti
              · exact e
            subst ha
            have hcell := h4 i _ hxi
            have hy := hincr _ (List.mem_of_getElem? hxi)
            have HXI := hide hxi
            clear hxi h4 h3
            generalize rinc[i] = y at *
            have hkey := keyOf_name y hy.2
            obtain ⟨c, hrun, hat, _⟩ := (HM.out.below hbw).lookup_int keyLaw Tryz.underlying72 Tryz.underlying3 (zeroE _) hkey
            obtain ⟨j, hj, hjv⟩ := HPM.out.val y hy.1
            have hcj : c = j := by
              rw [hjv] at hat
              simp only [DataW.lit.injEq, Lit.int.injEq, true_and] at hat
              exact hat.symm
            subst hcj
            have hidxj := idx_nodup _ y j HND.out hj
            have hjl : j < LR.length := by have := (List.getElem?_eq_some_iff.1 hj).1; simpa using this
            have hjb : j < bs'.length := by omega
            have hxb := List.getElem?_eq_getElem hjb
            have hcb : wr.cell? ⟨w.heap.size, j, none⟩ = some (.bool bs'[j]) := by
              rw [cell_of_block hbl j]; simp [boolsV, hxb]
            have hfb := frozen_of_block hbl j
            have HST := hide (show (rinc.take (i + 1)).foldl (incStep (LR.map rN)) (op.dropLast, bs) = incStep (LR.map rN) (op', bs') y from by
              rw [List.take_add_one, HXI.out, List.foldl_append, HFOLD.out]; rfl)
            have HMS := hide (muI_step (LR.map rN) (op', bs') y (by rw [hidxj]; simpa using hjb))
            have HIS := hide (show incStep (LR.map rN) (op', bs') y = if bs'[j] = true then (op', bs') else (op' ++ [j], bs'.set j true) from by
              unfold incStep
              rw [hidxj]
              simp only [Int.toNat_natCast, List.getD_eq_getElem?_getD, hxb, Option.getD_some])
            have hj0 : (0 : Int) ≤ (j : Int) := by omega
            have hj1 : (j : Int) < (LR.length : Int) := by omega
            clear hat hjv hj hy hkey hidxj hxb
            cases hq : bs'[j]
            · rw [hq] at hcb HIS
              simp only [Bool.false_eq_true, if_false] at HIS
              have hlow : ∀ q, (Value.slice aO' op'.length cO').ownBlock = some q → w.heap.size + 1 ≤ q := fun q hq => (hown.lt q hq).1
              have hown4 : (wr.setCell ⟨w.heap.size, j, none⟩ (.bool true)).ownsRow (w.heap.size + 1) 3 1 (.slice aO' op'.length cO') op'.length (natsV op') := ownsRow_stay hown (Stay.setT hbl (by decide) j (.bool true))
              have hbl4 := setCell_block hbl j (.bool true)
              clear hq
              go_wp2_with (at_builtin; refine wpList_append_own _ rfl _ _ 211 rfl (w.heap.size + 1) 3 i0 _ 1 8 Tryz.underlying211 hi hz0 hz1 hz2 rfl (by decide) _ _ _ rfl (hown4.alloc _) ⟨wr.heap.size, 0, none⟩ 1 1 [.int .i64 j] rfl rfl (cells_new' (wr.setCell ⟨w.heap.size, j, none⟩ (.bool true)) wr.heap.size [.int .i64 j] 3 (by simp [World.setCell])) (fun u hu => by simp at hu; subst hu; rfl) (by unfold maxLen; omega) (by omega) (by simp [World.setCell]; omega) ?_; intro v' w5 hown5 hgrow _)
              have hbl5 : w5.heap[w.heap.size]? = some (.cells (boolsV (bs'.set j true)).toArray 4 (0, 0)) := by
                rw [hgrow.block w.heap.size (by simp [World.setCell]; omega) (fun e => by have := hlow _ e.symm; omega), alloc_other _ _ _ (by simp [World.setCell]; omega), hbl4]
                congr 2
                apply Array.toList_inj.1
                simp [boolsV, List.map_set]
              have hb5 : Below w.heap.size w w5 := ((hbw.setCell (Nat.le_refl _) _).alloc (by simp [World.setCell]; omega) _).grown hgrow (by simp [World.setCell]; omega) (fun q hq => by have := hlow q hq; omega)
              have hown6 : w5.ownsRow (w.heap.size + 1) 3 1 v' (op' ++ [j]).length (natsV (op' ++ [j])) := by
                rw [List.length_append, show natsV (op' ++ [j]) = natsV op' ++ [.int .i64 j] from by simp [natsV]]
                exact hown5
              have HX := hide (And.intro hown6 (And.intro hbl5 hb5))
              clear hown5 hgrow hbl5 hb5 hown6 hown4 hbl4
              go_wp2_with fail
              go_roundg (rinc.length - (i + 1))
              case measure => omega
              case rel => exact ⟨i + 1, op' ++ [j], bs'.set j true, by go_num, by omega, Nat.le_refl _, HX.out.1, HX.out.2.1, by simpa using hbs', by
                  intro q hq
                  rcases List.mem_append.1 hq with hq | hq
                  · exact HOP'.out q hq
                  · simp at hq; subst hq; exact hjl, HX.out.2.2, by have h1 := HMS.out.1; rw [HIS.out] at h1; omega, by rw [HST.out, HIS.out]⟩
            · rw [hq] at hcb HIS
              simp only [if_true] at HIS
              clear hq
              go_wp2_with fail
              go_roundg (rinc.length - (i + 1))
              case measure => omega
              case rel => exact ⟨i + 1, op', bs', by go_num, by omega, Nat.le_refl _, hown, HBL'.out, hbs', HOP'.out, hbw, hmu, by rw [HST.out, HIS.out]⟩
          · have HFE := hide (show rinc.foldl (incStep (LR.map rN)) (op.dropLast, bs) = (op', bs') from by
              have := HFOLD.out
              rw [List.take_of_length_le (by omega)] at this; exact this)
            obtain ⟨f', rfl⟩ : ∃ f', f = f' + 1 := ⟨f - 1, by omega⟩
            have HRE := hide (show FF = inclF (LR.map Prod.fst) f' (op', bs') from by
              rw [HR.out, HINCL.out, HRR.out, HFE.out])
            go_wp2_with fail
            go_roundg (muI (op', bs'))
            case measure => omega
            case rel => exact ⟨op', bs', f', Nat.le_refl _, by omega, by omega, hown, HBL'.out, hbs', HOP'.out, hbw, HRE.out⟩
end Go.Proofs.YtpggfgjongkihaaGreat
namespace Go.Proofs.YtpggfgjongkihaaGreat
open Go.RowKit
open Go.Maps
theorem SV.shapedR {w : World} {S : Nat} {vR vO vI vU vN : Value} {LR : List (RRole × Value)} {LO : List (PObj × Value × Value × Value)} {LI : List (PIf × Value)} {LU : List (PUn × Value)} {names : List ByteArray} (h : SV w S vR vO vI vU vN LR LO LI LU names) : Shaped shR w vR 2 (LR.map rN) :=
  h.r.shaped shR rN (fun _ => rfl) (fun _ => rfl) (fun x hx k u hk hu => by
    obtain ⟨a, c, hv⟩ := own_slice (h.r.ok x hx).1
    have : flR x = [.string x.1.name, x.2] := rfl
    rw [this] at hu
    match k, hk, hu with
    | 1, _, hu => simp at hu; exact ⟨a, _, c, by rw [← hu]; exact hv⟩
    | k + 2, _, hu => simp at hu)
theorem foldl_len (nms : List ByteArray) : ∀ (l : List ByteArray) (st : OS), (l.foldl (incStep nms) st).2.length = st.2.length
  | [], _ => rfl
  | x :: l, st => by
    rw [List.foldl_cons, foldl_len nms l]
    unfold incStep; split <;> simp
theorem inclF_len (roles : List RRole) (n : Nat) (f : Nat) (_ : 0 = 0) : ∀ (_ : Nat) (st : OS), st.2.length = n → (inclF roles f st).length = n := by
  intro _
  induction f with
  | zero => intro st h; exact h
  | succ f ih =>
    intro st h
    rw [inclF]
    split
    · exact h
    · refine ih _ ?_
      unfold incRound
      rw [foldl_len]; exact h
set_option maxHeartbeats 4000000 in
set_option maxRecDepth 100000 in
theorem rolesRight_any' (w : World) (S : Nat) (vR vO vI vU vN : Value) (LR : List (RRole × Value)) (LO : List (PObj × Value × Value × Value)) (LI : List (PIf × Value)) (LU : List (PUn × Value)) (names : List ByteArray) (h : SV w S vR vO vI vU vN LR LO LI LU names) (hsz : ∀ x ∈ LR, x.1.name.size ≤ 4000 ∧ ∀ y ∈ x.1.inc, y.size ≤ 4000) :
    Calls Tryz.prog 56 #[.pointer (some ⟨S, 0, none⟩)] w fun e w' => e = .returned (.bool (nodupB (LR.map rN) && (LR.all (fun (x : RRole × Value) => x.1.inc.all fun y => memB y (LR.map rN)) && (List.range LR.length).all (fun (i : Nat) => !(inclF (LR.map Prod.fst) (2 * LR.length + 1) ([i], List.replicate LR.length false)).getD i false)))) ∧ Below w.heap.size w w' := by
  have H0 := hide h
  have HSZ := hide hsz
  have hlr := h.lr
  have hc := placesRole_any w vR (LR.map rN) h.shapedR (by simp; omega) (by
    intro x hx
    obtain ⟨r, hr, rfl⟩ := List.mem_map.1 hx
    exact (hsz r hr).1)
  obtain ⟨aR, cR, hv⟩ := own_slice h.r.own
  subst hv
  have c0 : w.cell? ⟨S, 0, none⟩ = some (.slice aR LR.length cR) := cell_of_block h.sc 0
  generalize hFF : (nodupB (LR.map rN) && (LR.all (fun (x : RRole × Value) => x.1.inc.all fun y => memB y (LR.map rN)) && (List.range LR.length).all (fun (i : Nat) => !(inclF (LR.map Prod.fst) (2 * LR.length + 1) ([i], List.replicate LR.length false)).getD i false))) = FF at *
  have HFF := hide hFF
  clear h hsz hFF
  go_enter Tryz.func56, Tryz.ntmps56
  go_wp2_with fail
  refine hc.mono ?_
  clear hc
  rintro e w1 ⟨M, D, rfl, hM, hown, hpm, hb1⟩
  have HPM := hide hpm
  have HOWN := hide hown
  have c1 := cell_below hb1 c0
  have hlenN : ∀ (n : Nat) (ty : TypeId), (Builtin.len_ #[72] ty #[.map (some M)]).run Tryz.prog (w1.drewN n) = .ok (.int .i64 (Maps.size D)) (w1.drewN n) := fun n ty => World.ownsMap.len (OwnM.below hown (below_drewN (Below.refl _ _) n)) Tryz.underlying72 ty
  have hnn : nodupB (LR.map rN) = decide (Maps.size D = LR.length) := by
    rw [Bool.eq_iff_iff, nodupB_iff, ← hpm.eq]; simp
  have HNN := hide hnn
  clear hnn hpm hown
  generalize hsd : Maps.size D = sd at *
  clear hsd
  by_cases hq : sd = LR.length
  · have t1 : ((sd : Int) == (LR.length : Int)) = true := by simp; omega
    have HND := hide (show (LR.map rN).Nodup from by rw [← nodupB_iff, HNN.out]; simp [hq])
    have HFF2 := hide (show FF = (LR.all (fun (x : RRole × Value) => x.1.inc.all fun y => memB y (LR.map rN)) && (List.range LR.length).all (fun (i : Nat) => !(inclF (LR.map Prod.fst) (2 * LR.length + 1) ([i], List.replicate LR.length false)).getD i false)) from by
      rw [← HFF.out, HNN.out]; simp [hq])
    clear HFF HNN
    go_wp2_with fail
    go_quiet (fail)
    have c1q := cell_below (below_drewN (Below.refl _ _) nq) c1
    have hb1q : Below w.heap.size w (w1.drewN nq) := below_drewN hb1 nq
    have HOWNq := hide (OwnM.below HOWN.out (below_drewN (Below.refl _ _) nq))
    clear HOWN hlenN c1
    generalize w1.drewN nq = w2 at *
    clear hb1
    go_wp2_with fail
    go_loopg [5, 7, 8, 9, 29, 34, 35, 36] LR.length (fun m v5 v7 v8 v9 v29 v34 v35 v36 wr => ∃ k : Nat, v29 = .int .i64 k ∧ k ≤ LR.length ∧ LR.length - k ≤ m ∧ Below w2.heap.size w2 wr ∧ ((LR.take k).all (fun (x : RRole × Value) => x.1.inc.all fun y => memB y (LR.map rN))) = true)
    case atStart => exact ⟨0, rfl, Nat.zero_le _, by omega, Below.refl _ _, by simp⟩
    case round =>
      obtain ⟨wo, rfl⟩ : ∃ wo : World, wo = wr := ⟨_, rfl⟩
      obtain ⟨k, rfl, hk, hm, hb, hall⟩ := hrel
      have HALL := hide hall
      clear hall
      have hbw : Below w.heap.size w wo := hb1q.trans (hb.mono hb1q.size)
      by_cases hlt : k < LR.length
      · have hx := List.getElem?_eq_getElem hlt
        have hsv := H0.out.below hbw
        obtain ⟨gR, capR, hvR, hcc⟩ := hsv.r.cell (fun _ => rfl) k _ hx
        cases hvR
        have hokw := (hsv.r.ok _ (List.mem_of_getElem? hx)).1
        have hokl := (hsv.r.ok _ (List.mem_of_getElem? hx)).2
        have d0 : wo.cell? ⟨gR, k * 2, none⟩ = some (.string LR[k].1.name) := by simpa using hcc 0 _ rfl
        have d1 : wo.cell? ⟨gR, k * 2 + 1, none⟩ = some LR[k].2 := hcc 1 _ rfl
        have hsz := (HSZ.out _ (List.mem_of_getElem? hx)).2
        have HX := hide hx
        clear hx hcc hsv
        generalize LR[k] = rr at *
        obtain ⟨⟨rn, rinc⟩, rv⟩ := rr
        simp only [] at *
        obtain ⟨aI, cI, rfl⟩ := own_slice hokw
        have HSTR := hide (StrsAt.of_own hokw)
        clear hokw
        have HXJ := hide (show ((LR.take (k + 1)).all (fun (x : RRole × Value) => x.1.inc.all fun y => memB y (LR.map rN))) = (rinc.all fun y => memB y (LR.map rN)) from by
          rw [List.take_add_one, HX.out, List.all_append, HALL.out]; simp)
        have HFALSE := hide (show (rinc.all fun y => memB y (LR.map rN)) = false → FF = false from fun hF => by
          rw [HFF2.out, Bool.and_eq_false_iff]; left
          rw [Bool.eq_false_iff]
          intro hT
          rw [List.all_eq_true] at hT
          have := hT _ (List.mem_of_getElem? HX.out)
          simp only [] at this
          rw [hF] at this; cases this)
        have hbn : Below wo.heap.size wo (wo.alloc (.cells #[.string rn, .slice aI rinc.length cI] 154)) := (Below.refl _ _).alloc (Nat.le_refl _) _
        go_wp2_with fail
        go_loopg [7, 8, 9, 36] rinc.length (fun m v7 v8 v9 v36 wr => ∃ i : Nat, v36 = .int .i64 i ∧ i ≤ rinc.length ∧ rinc.length - i ≤ m ∧ Below wo.heap.size wo wr ∧ ((rinc.take i).all fun y => memB y (LR.map rN)) = true)
        case atStart => exact ⟨0, rfl, Nat.zero_le _, by omega, hbn, by simp⟩
        case round =>
          clear hbn d0 d1
          obtain ⟨i, rfl, hi, hmi, hbi, halli⟩ := hrel
          have HALLI := hide halli
          clear halli
          have hb2r : Below w2.heap.size w2 wr := hb.trans (hbi.mono hb.size)
          by_cases hlti : i < rinc.length
          · have hxi := List.getElem?_eq_getElem hlti
            obtain ⟨a', cap', e1, _, h3⟩ := HSTR.out.below hbi
            cases e1
            obtain ⟨gs, off, ha, h4⟩ : ∃ g off, aI = some ⟨g, off, none⟩ ∧ ∀ (j : Nat) (x : ByteArray), rinc[j]? = some x → wr.cell? ⟨g, off + j, none⟩ = some (.string x) := by
              rcases h3 with e | e
              · rw [e] at hlti; simp at hlti
              · exact e
            subst ha
            have hcell := h4 i _ hxi
            have hy := hsz _ (List.mem_of_getElem? hxi)
            have HXI := hide hxi
            clear hxi h4 h3
            generalize rinc[i] = y at *
            have hkey := keyOf_name y hy
            have hownr := OwnM.below HOWNq.out hb2r
            have HXT := hide (show ((rinc.take (i + 1)).all fun y => memB y (LR.map rN)) = memB y (LR.map rN) from by
              rw [List.take_add_one, HXI.out, List.all_append, HALLI.out]; simp)
            have HFY := hide (show memB y (LR.map rN) = false → FF = false from fun hF => HFALSE.out (by
              rw [Bool.eq_false_iff]
              intro hT
              rw [List.all_eq_true] at hT
              have := hT y (List.mem_of_getElem? HXI.out)
              rw [hF] at this; cases this))
            have hhas := HPM.out.hasP y
            cases hq2 : memB y (LR.map rN)
            · rw [hq2] at hhas
              have HE := hide (HFY.out hq2)
              clear hq2 HFY HXT
              go_wp2_with (at_lookup; refine wpList_lookup_own_ok_int _ rfl _ _ 72 rfl 9 3 .i64 keyLaw Tryz.underlying72 Tryz.underlying3 (zeroE _) M _ D rfl hownr _ _ rfl hkey ?_; intro c hat hwc; rw [hhas])
              go_ret
              exact ⟨ret_bool (by rw [HE.out]), hb1q.trans (hb2r.mono hb1q.size)⟩
            · rw [hq2] at hhas HXT
              clear hq2 HFY
              go_wp2_with (at_lookup; refine wpList_lookup_own_ok_int _ rfl _ _ 72 rfl 9 3 .i64 keyLaw Tryz.underlying72 Tryz.underlying3 (zeroE _) M _ D rfl hownr _ _ rfl hkey ?_; intro c hat hwc; rw [hhas])
              go_roundg (rinc.length - (i + 1))
              case measure => omega
              case rel => exact ⟨i + 1, by go_num, by omega, Nat.le_refl _, hbi, HXT.out⟩
          · have HXE := hide (show ((LR.take (k + 1)).all (fun (x : RRole × Value) => x.1.inc.all fun y => memB y (LR.map rN))) = true from by
              rw [HXJ.out]
              have h1 := HALLI.out
              rw [List.take_of_length_le (by omega)] at h1
              exact h1)
            go_wp2_with fail
            go_roundg (LR.length - (k + 1))
            case measure => omega
            case rel => exact ⟨k + 1, by go_num, by omega, Nat.le_refl _, hb2r, HXE.out⟩
      · have hallT : LR.all (fun (x : RRole × Value) => x.1.inc.all fun y => memB y (LR.map rN)) = true := by
          have h1 := HALL.out
          rw [List.take_of_length_le (by omega)] at h1
          exact h1
        have HKN := hide (show ∀ x ∈ LR, ∀ y ∈ x.1.inc, y ∈ LR.map rN ∧ y.size ≤ 4000 from fun x hx y hy => by
          rw [List.all_eq_true] at hallT
          have h1 := hallT x hx
          rw [List.all_eq_true] at h1
          exact ⟨(memB_true _ _).1 (h1 y hy), (HSZ.out x hx).2 y hy⟩)
        have HFF3 := hide (show FF = (List.range LR.length).all (fun (i : Nat) => !(inclF (LR.map Prod.fst) (2 * LR.length + 1) ([i], List.replicate LR.length false)).getD i false) from by rw [HFF2.out, hallT]; rfl)
        clear hallT HFF2
        have cwo := cell_below hb c1q
        go_wp2_with fail
        go_loopg [10, 55] LR.length (fun m v10 v55 wr => ∃ i : Nat, v55 = .int .i64 i ∧ i ≤ LR.length ∧ LR.length - i ≤ m ∧ Below w2.heap.size w2 wr ∧ ((List.range i).all (fun (i : Nat) => !(inclF (LR.map Prod.fst) (2 * LR.length + 1) ([i], List.replicate LR.length false)).getD i false)) = true)
        case atStart => exact ⟨0, rfl, Nat.zero_le _, by omega, hb, by simp⟩
        case round =>
          clear cwo
          obtain ⟨i, rfl, hi, hmi, hbi, halli⟩ := hrel
          have HALLI := hide halli
          clear halli
          have hbwr : Below w.heap.size w wr := hb1q.trans (hbi.mono hb1q.size)
          by_cases hlti : i < LR.length
          · have hsv := H0.out.below hbwr
            have hcI := included_any wr S _ _ _ _ _ LR LO LI LU names i M _ D hsv (OwnM.below HOWNq.out hbi) HPM.out HND.out HKN.out hlti
            have HXT := hide (show ((List.range (i + 1)).all (fun (i : Nat) => !(inclF (LR.map Prod.fst) (2 * LR.length + 1) ([i], List.replicate LR.length false)).getD i false)) = (fun (i : Nat) => !(inclF (LR.map Prod.fst) (2 * LR.length + 1) ([i], List.replicate LR.length false)).getD i false) i from by
              rw [List.range_succ, List.all_append, HALLI.out]; simp)
            have HFY := hide (show (fun (i : Nat) => !(inclF (LR.map Prod.fst) (2 * LR.length + 1) ([i], List.replicate LR.length false)).getD i false) i = false → FF = false from fun hF => by
              rw [HFF3.out, Bool.eq_false_iff]
              intro hT
              rw [List.all_eq_true] at hT
              have := hT i (List.mem_range.2 hlti)
              have h9 := hF.symm.trans this
              cases h9)
            have hlen : (inclF (LR.map Prod.fst) (2 * LR.length + 1) ([i], List.replicate LR.length false)).length = LR.length := inclF_len _ _ _ rfl 0 _ (by simp)
            simp only [] at HXT HFY
            generalize inclF (LR.map Prod.fst) (2 * LR.length + 1) ([i], List.replicate LR.length false) = rb at *
            clear hsv
            go_wp2_with fail
            refine hcI.mono ?_
            clear hcI
            rintro e w4 ⟨rfl, hblk, hb4⟩
            have hib : i < rb.length := by omega
            have hxb := List.getElem?_eq_getElem hib
            have hcb : w4.cell? ⟨wr.heap.size, i, none⟩ = some (.bool rb[i]) := by
              rw [cell_of_block hblk i]; simp [boolsV, hxb]
            have HGD := hide (show rb.getD i false = rb[i] from by rw [List.getD_eq_getElem?_getD, hxb]; rfl)
            rw [HGD.out] at HXT HFY
            have hbb : Below w2.heap.size w2 w4 := hbi.trans (hb4.mono hbi.size)
            clear hblk hb4 hxb
            have hi0 : (0 : Int) ≤ (i : Int) := by omega
            have hi1 : (i : Int) < (LR.length : Int) := by omega
            cases hq3 : rb[i]
            · rw [hq3] at hcb HXT
              clear hq3 HFY HGD
              go_wp2_with fail
              go_roundg (LR.length - (i + 1))
              case measure => omega
              case rel => exact ⟨i + 1, by go_num, by omega, Nat.le_refl _, hbb, HXT.out⟩
            · rw [hq3] at hcb HFY
              have HE := hide (HFY.out rfl)
              clear hq3 HFY HGD HXT
              go_wp2_with fail
              go_ret
              exact ⟨ret_bool (by rw [HE.out]), hb1q.trans (hbb.mono hb1q.size)⟩
          · go_wp2_with fail
            go_ret
            exact ⟨ret_bool (by
              rw [HFF3.out]
              have h1 := HALLI.out
              rw [show i = LR.length by omega] at h1
              exact h1.symm), hbwr⟩
  · have t1 : ((sd : Int) == (LR.length : Int)) = false := by simp; omega
    have HE := hide (show FF = false from by rw [← HFF.out, HNN.out]; simp [hq])
    clear HFF HNN
    go_wp2_with fail
    go_quiet (fail)
    go_wp2_with fail
    go_ret
    exact ⟨ret_bool (by rw [HE.out]), below_drewN hb1 _⟩
end Go.Proofs.YtpggfgjongkihaaGreat
namespace Go.Proofs.YtpggfgjongkihaaGreat
open Go.RowKit
def sizesL (LR : List (RRole × Value)) (LO : List (PObj × Value × Value × Value)) (LI : List (PIf × Value)) (LU : List (PUn × Value)) (names : List ByteArray) : Prop :=
  (∀ x ∈ LR, x.1.name.size ≤ 4000 ∧ ∀ y ∈ x.1.inc, y.size ≤ 4000) ∧ (∀ x ∈ LO, (∀ f ∈ x.1.fields, f.name.size ≤ 4000) ∧ ∀ y ∈ x.1.impl, y.size ≤ 4000) ∧ (∀ x ∈ LI, ∀ f ∈ x.1.fields, f.name.size ≤ 4000) ∧ (∀ x ∈ LU, ∀ y ∈ x.1.members, y.size ≤ 4000) ∧ ∀ x ∈ names, x.size ≤ 4000
set_option maxHeartbeats 2000000 in
set_option maxRecDepth 100000 in
theorem rightV_any (w : World) (S : Nat) (vR vO vI vU vN : Value) (LR : List (RRole × Value)) (LO : List (PObj × Value × Value × Value)) (LI : List (PIf × Value)) (LU : List (PUn × Value)) (names : List ByteArray) (h : SV w S vR vO vI vU vN LR LO LI LU names) (hz : sizesL LR LO LI LU names) :
    Calls Tryz.prog 32 #[.pointer (some ⟨S, 0, none⟩)] w fun e w' => e = .returned (.bool ((nodupB (LR.map rN) && (LR.all (fun (x : RRole × Value) => x.1.inc.all fun y => memB y (LR.map rN)) && (List.range LR.length).all (fun (i : Nat) => !(inclF (LR.map Prod.fst) (2 * LR.length + 1) ([i], List.replicate LR.length false)).getD i false))) && (namesB names && ((LO.all fun x => objB (LR.map rN) (kindN (LO.map oN) (LI.map iN) (LU.map uN)) (LI.map Prod.fst) x.1) && ((LI.all fun x => fldsB (LR.map rN) (kindN (LO.map oN) (LI.map iN) (LU.map uN)) x.1.fields) && ((LU.all fun x => allK (kindN (LO.map oN) (LI.map iN) (LU.map uN)) 2 x.1.members) && queryB (LO.map Prod.fst))))))) ∧ Below w.heap.size w w' := by
  obtain ⟨z1, z2, z3, z4, z5⟩ := hz
  have h1 := rolesRight_any' w S vR vO vI vU vN LR LO LI LU names h z1
  have H2 := hide (fun w' hb => namesRight_any w' S vR vO vI vU vN LR LO LI LU names (h.below hb) z5)
  have H3 := hide (fun w' hb => objectsRight_any w' S vR vO vI vU vN LR LO LI LU names (h.below hb) z2)
  have H4 := hide (fun w' hb => interfacesRight_any w' S vR vO vI vU vN LR LO LI LU names (h.below hb) z3)
  have H5 := hide (fun w' hb => unionsRight_any w' S vR vO vI vU vN LR LO LI LU names (h.below hb) z4)
  have H6 := hide (fun w' hb => queryRight_any w' S vR vO vI vU vN LR LO LI LU names (h.below hb))
  generalize (nodupB (LR.map rN) && (LR.all (fun (x : RRole × Value) => x.1.inc.all fun y => memB y (LR.map rN)) && (List.range LR.length).all (fun (i : Nat) => !(inclF (LR.map Prod.fst) (2 * LR.length + 1) ([i], List.replicate LR.length false)).getD i false))) = q1 at *
  generalize namesB names = q2 at *
  generalize (LO.all fun x => objB (LR.map rN) (kindN (LO.map oN) (LI.map iN) (LU.map uN)) (LI.map Prod.fst) x.1) = q3 at *
  generalize (LI.all fun x => fldsB (LR.map rN) (kindN (LO.map oN) (LI.map iN) (LU.map uN)) x.1.fields) = q4 at *
  generalize (LU.all fun x => allK (kindN (LO.map oN) (LI.map iN) (LU.map uN)) 2 x.1.members) = q5 at *
  generalize queryB (LO.map Prod.fst) = q6 at *
  clear h z1 z2 z3 z4 z5
  cases q1
  · skip
    go_enter Tryz.func32, Tryz.ntmps32
    go_wp2_with fail
    refine h1.mono ?_
    clear h1
    rintro e w1 ⟨rfl, hb1⟩
    have hbb1 := hb1
    go_wp2_with fail
    go_ret
    exact ⟨ret_bool (by simp), hbb1⟩
  · skip
    cases q2
    · skip
      go_enter Tryz.func32, Tryz.ntmps32
      go_wp2_with fail
      refine h1.mono ?_
      clear h1
      rintro e w1 ⟨rfl, hb1⟩
      have hbb1 := hb1
      go_wp2_with fail
      refine (H2.out w1 hbb1).mono ?_
      rintro e w2 ⟨rfl, hb2⟩
      have hbb2 := hbb1.trans (hb2.mono hbb1.size)
      go_wp2_with fail
      go_ret
      exact ⟨ret_bool (by simp), hbb2⟩
    · skip
      cases q3
      · skip
        go_enter Tryz.func32, Tryz.ntmps32
        go_wp2_with fail
        refine h1.mono ?_
        clear h1
        rintro e w1 ⟨rfl, hb1⟩
        have hbb1 := hb1
        go_wp2_with fail
        refine (H2.out w1 hbb1).mono ?_
        rintro e w2 ⟨rfl, hb2⟩
        have hbb2 := hbb1.trans (hb2.mono hbb1.size)
        go_wp2_with fail
        refine (H3.out w2 hbb2).mono ?_
        rintro e w3 ⟨rfl, hb3⟩
        have hbb3 := hbb2.trans (hb3.mono hbb2.size)
        go_wp2_with fail
        go_ret
        exact ⟨ret_bool (by simp), hbb3⟩
      · skip
        cases q4
        · skip
          go_enter Tryz.func32, Tryz.ntmps32
          go_wp2_with fail
          refine h1.mono ?_
          clear h1
          rintro e w1 ⟨rfl, hb1⟩
          have hbb1 := hb1
          go_wp2_with fail
          refine (H2.out w1 hbb1).mono ?_
          rintro e w2 ⟨rfl, hb2⟩
          have hbb2 := hbb1.trans (hb2.mono hbb1.size)
          go_wp2_with fail
          refine (H3.out w2 hbb2).mono ?_
          rintro e w3 ⟨rfl, hb3⟩
          have hbb3 := hbb2.trans (hb3.mono hbb2.size)
          go_wp2_with fail
          refine (H4.out w3 hbb3).mono ?_
          rintro e w4 ⟨rfl, hb4⟩
          have hbb4 := hbb3.trans (hb4.mono hbb3.size)
          go_wp2_with fail
          go_ret
          exact ⟨ret_bool (by simp), hbb4⟩
        · skip
          cases q5
          · skip
            go_enter Tryz.func32, Tryz.ntmps32
            go_wp2_with fail
            refine h1.mono ?_
            clear h1
            rintro e w1 ⟨rfl, hb1⟩
            have hbb1 := hb1
            go_wp2_with fail
            refine (H2.out w1 hbb1).mono ?_
            rintro e w2 ⟨rfl, hb2⟩
            have hbb2 := hbb1.trans (hb2.mono hbb1.size)
            go_wp2_with fail
            refine (H3.out w2 hbb2).mono ?_
            rintro e w3 ⟨rfl, hb3⟩
            have hbb3 := hbb2.trans (hb3.mono hbb2.size)
            go_wp2_with fail
            refine (H4.out w3 hbb3).mono ?_
            rintro e w4 ⟨rfl, hb4⟩
            have hbb4 := hbb3.trans (hb4.mono hbb3.size)
            go_wp2_with fail
            refine (H5.out w4 hbb4).mono ?_
            rintro e w5 ⟨rfl, hb5⟩
            have hbb5 := hbb4.trans (hb5.mono hbb4.size)
            go_wp2_with fail
            go_ret
            exact ⟨ret_bool (by simp), hbb5⟩
          · skip
            go_enter Tryz.func32, Tryz.ntmps32
            go_wp2_with fail
            refine h1.mono ?_
            clear h1
            rintro e w1 ⟨rfl, hb1⟩
            have hbb1 := hb1
            go_wp2_with fail
            refine (H2.out w1 hbb1).mono ?_
            rintro e w2 ⟨rfl, hb2⟩
            have hbb2 := hbb1.trans (hb2.mono hbb1.size)
            go_wp2_with fail
            refine (H3.out w2 hbb2).mono ?_
            rintro e w3 ⟨rfl, hb3⟩
            have hbb3 := hbb2.trans (hb3.mono hbb2.size)
            go_wp2_with fail
            refine (H4.out w3 hbb3).mono ?_
            rintro e w4 ⟨rfl, hb4⟩
            have hbb4 := hbb3.trans (hb4.mono hbb3.size)
            go_wp2_with fail
            refine (H5.out w4 hbb4).mono ?_
            rintro e w5 ⟨rfl, hb5⟩
            have hbb5 := hbb4.trans (hb5.mono hbb4.size)
            go_wp2_with fail
            refine (H6.out w5 hbb5).mono ?_
            rintro e w6 ⟨rfl, hb6⟩
            have hbb6 := hbb5.trans (hb6.mono hbb5.size)
            go_wp2_with fail
            go_ret
            exact ⟨ret_bool (by simp), hbb6⟩
def rolesPB (roles : List RRole) : Bool := nodupB (roles.map RRole.name) && ((roles.all fun r => r.inc.all fun y => memB y (roles.map RRole.name)) && (List.range roles.length).all fun i => !(inclF roles (2 * roles.length + 1) ([i], List.replicate roles.length false)).getD i false)
def kindC (c : PSch) : ByteArray → Nat := kindN (c.objs.map PObj.name) (c.ifs.map PIf.name) (c.uns.map PUn.name)
/-- is the program's schema right? -/
def rightP (c : PSch) : Bool := rolesPB c.roles && (namesB c.names && ((c.objs.all (objB (c.roles.map RRole.name) (kindC c) c.ifs)) && ((c.ifs.all fun i => fldsB (c.roles.map RRole.name) (kindC c) i.fields) && ((c.uns.all fun u => allK (kindC c) 2 u.members) && queryB c.objs))))
/-- no name is too long for a map -/
def sizesC (c : PSch) : Prop := (∀ x ∈ c.roles, x.name.size ≤ 4000 ∧ ∀ y ∈ x.inc, y.size ≤ 4000) ∧ (∀ x ∈ c.objs, (∀ f ∈ x.fields, f.name.size ≤ 4000) ∧ ∀ y ∈ x.impl, y.size ≤ 4000) ∧ (∀ x ∈ c.ifs, ∀ f ∈ x.fields, f.name.size ≤ 4000) ∧ (∀ x ∈ c.uns, ∀ y ∈ x.members, y.size ≤ 4000) ∧ ∀ x ∈ c.names, x.size ≤ 4000
theorem rightP_any (w : World) (S : Nat) (c : PSch) (h : SchP w S c) (hl : lensLe c 804) (hz : sizesC c) :
    Calls Tryz.prog 32 #[.pointer (some ⟨S, 0, none⟩)] w fun e w' => e = .returned (.bool (rightP c)) ∧ Below w.heap.size w w' := by
  obtain ⟨vR, vO, vI, vU, vN, LR, LO, LI, LU, hS, hR, hO, hI, hU, hN, mR, mO, mI, mU⟩ := h.ex
  obtain ⟨l1, l2, l3, l4, l5⟩ := hl
  obtain ⟨z1, z2, z3, z4, z5⟩ := hz
  rw [← mR] at l1 z1
  rw [← mO] at l2 z2
  rw [← mI] at l3 z3
  rw [← mU] at l4 z4
  have hsv : SV w S vR vO vI vU vN LR LO LI LU c.names := ⟨hS, hR, hO, hI, hU, hN, by simpa using l1, by simpa using l2, by simpa using l3, by simpa using l4, l5⟩
  have hzl : sizesL LR LO LI LU c.names := ⟨fun x hx => z1 _ (List.mem_map_of_mem hx), fun x hx => z2 _ (List.mem_map_of_mem hx), fun x hx => z3 _ (List.mem_map_of_mem hx), fun x hx => z4 _ (List.mem_map_of_mem hx), z5⟩
  refine (rightV_any w S vR vO vI vU vN LR LO LI LU c.names hsv hzl).mono ?_
  rintro e w' ⟨rfl, hb⟩
  refine ⟨ret_bool ?_, hb⟩
  have eR : LR.map rN = c.roles.map RRole.name := by rw [← mR, List.map_map]; rfl
  have eO : LO.map oN = c.objs.map PObj.name := by rw [← mO, List.map_map]; rfl
  have eI : LI.map iN = c.ifs.map PIf.name := by rw [← mI, List.map_map]; rfl
  have eU : LU.map uN = c.uns.map PUn.name := by rw [← mU, List.map_map]; rfl
  unfold rightP rolesPB kindC
  rw [eR, eO, eI, eU, mR, mO, mI]
  have a1 : (LR.all fun x => x.1.inc.all fun y => memB y (c.roles.map RRole.name)) = (c.roles.all fun r => r.inc.all fun y => memB y (c.roles.map RRole.name)) := by rw [← mR, List.all_map]; rfl
  have a2 : LR.length = c.roles.length := by rw [← mR]; simp
  have a3 : (LO.all fun x => objB (c.roles.map RRole.name) (kindN (c.objs.map PObj.name) (c.ifs.map PIf.name) (c.uns.map PUn.name)) c.ifs x.1) = c.objs.all (objB (c.roles.map RRole.name) (kindN (c.objs.map PObj.name) (c.ifs.map PIf.name) (c.uns.map PUn.name)) c.ifs) := by rw [← mO, List.all_map]; rfl
  have a4 : (LI.all fun x => fldsB (c.roles.map RRole.name) (kindN (c.objs.map PObj.name) (c.ifs.map PIf.name) (c.uns.map PUn.name)) x.1.fields) = (c.ifs.all fun i => fldsB (c.roles.map RRole.name) (kindN (c.objs.map PObj.name) (c.ifs.map PIf.name) (c.uns.map PUn.name)) i.fields) := by rw [← mI, List.all_map]; rfl
  have a5 : (LU.all fun x => allK (kindN (c.objs.map PObj.name) (c.ifs.map PIf.name) (c.uns.map PUn.name)) 2 x.1.members) = (c.uns.all fun u => allK (kindN (c.objs.map PObj.name) (c.ifs.map PIf.name) (c.uns.map PUn.name)) 2 u.members) := by rw [← mU, List.all_map]; rfl
  rw [a1, a2, a3, a4, a5]
/-- the program's answer -/
def checkP (x : ByteArray) : Nat := if doneP (pParse (cutS x)).2 = true then (if rightP (pParse (cutS x)).1 = true then 0 else 2) else 1
set_option maxHeartbeats 1000000 in
theorem readP_any (x : ByteArray) (w : World) (hs : x.size ≤ maxLen) (hz : sizesC (pParse (cutS x)).1) :
    Calls Tryz.prog 22 #[.string x] w fun e w' => ∃ v, e = .returned (.tuple #[v, .int .i64 (checkP x)]) ∧ Below w.heap.size w w' := by
  have hc := parse_any x w hs
  have HQ := hide (show checkP x = if doneP (pParse (cutS x)).2 = true then (if rightP (pParse (cutS x)).1 = true then 0 else 2) else 1 from rfl)
  generalize checkP x = FF at *
  generalize pParse (cutS x) = cs at *
  have HZ := hide hz
  clear hz
  cases hd : doneP cs.2
  · rw [hd] at hc HQ
    go_enter Tryz.func22, Tryz.ntmps22
    go_wp2_with fail
    refine hc.mono ?_
    clear hc
    rintro e w1 ⟨S, rfl, hS, hl, hB1⟩
    go_wp2_with fail
    go_ret2
    exact ⟨_, by rw [HQ.out]; rfl, hB1⟩
  · rw [hd] at hc HQ
    cases hr : rightP cs.1
    · rw [hr] at HQ
      go_enter Tryz.func22, Tryz.ntmps22
      go_wp2_with fail
      refine hc.mono ?_
      clear hc
      rintro e w1 ⟨S, rfl, hS, hl, hB1⟩
      have hc2 := rightP_any w1 S cs.1 hS hl HZ.out
      rw [hr] at hc2
      clear hS hl hr
      go_wp2_with fail
      refine hc2.mono ?_
      clear hc2
      rintro e w2 ⟨rfl, hb2⟩
      go_wp2_with fail
      go_ret2
      exact ⟨_, by rw [HQ.out]; rfl, hB1.trans (hb2.mono hB1.size)⟩
    · rw [hr] at HQ
      go_enter Tryz.func22, Tryz.ntmps22
      go_wp2_with fail
      refine hc.mono ?_
      clear hc
      rintro e w1 ⟨S, rfl, hS, hl, hB1⟩
      have hc2 := rightP_any w1 S cs.1 hS hl HZ.out
      rw [hr] at hc2
      clear hS hl hr
      go_wp2_with fail
      refine hc2.mono ?_
      clear hc2
      rintro e w2 ⟨rfl, hb2⟩
      go_wp2_with fail
      go_ret2
      exact ⟨_, by rw [HQ.out]; rfl, hB1.trans (hb2.mono hB1.size)⟩
set_option maxHeartbeats 1000000 in
theorem checkP_any (x : ByteArray) (w : World) (hs : x.size ≤ maxLen) (hz : sizesC (pParse (cutS x)).1) :
    Calls Tryz.prog 9 #[.string x] w fun e w' => e = .returned (.int .i64 (checkP x)) ∧ Below w.heap.size w w' := by
  have hc := readP_any x w hs hz
  generalize checkP x = FF at *
  go_enter Tryz.func9, Tryz.ntmps9
  go_wp2_with fail
  refine hc.mono ?_
  clear hc
  rintro e w1 ⟨v, rfl, hB1⟩
  go_wp2_with fail
  go_ret
  exact ⟨rfl, hB1⟩
end Go.Proofs.YtpggfgjongkihaaGreat
