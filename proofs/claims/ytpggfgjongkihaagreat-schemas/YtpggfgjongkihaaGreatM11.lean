/- Fields of the reference compared. -/
import Derived.Test.YtpggfgjongkihaaGreatM10
import Derived.Laws.StructEq
import Derived.ChangeKeysEq
namespace Go.Proofs.YtpggfgjongkihaaGreat
open Go.RowKit
theorem Tryz.eu78 : Tryz.prog.underlying 121 = some (.struct (Tryz.prog.fieldsOf 121)) := by kernel_rfl
theorem Tryz.eu9 : Tryz.prog.underlying 9 = some .string := by kernel_rfl
theorem Tryz.sh78 : Tryz.prog.stoodInHeld 121 = false := by kernel_rfl
theorem Tryz.eg78 : Tryz.prog.eqGuardType Tryz.prog.depth 121 = false := by kernel_rfl
theorem Tryz.pk9 : Tryz.prog.plainKey 9 = true := by kernel_rfl
theorem Tryz.fs78 : (Tryz.prog.fieldsOf 121).toList.map (fun f => (f.name, f.type, f.offset)) = [("Name", 9, 0), ("Arg", 9, 1), ("Type", 9, 2), ("Auth", 9, 3), ("Hide", 9, 4)] := by kernel_rfl
theorem eqF_cons (w : World) (d : Nat) (xs ys : Array Value) (f : Field) (fs : List Field) (a b : ByteArray) (hn : f.name ≠ "_") (ht : f.type = 9) (hx : xs[f.offset]? = some (.string a)) (hy : ys[f.offset]? = some (.string b)) :
    (Op.eqFields (d + 1) xs ys (f :: fs)).run Tryz.prog w = if (a.toList == b.toList) = true then (Op.eqFields (d + 1) xs ys fs).run Tryz.prog w else .ok false w := by
  rw [Op.eqFields, if_pos hn, ht]
  simp only [Sem.run_bind]
  rw [run_part_plain w Tryz.pk9 hx, Result.andThen_ok, run_part_plain w Tryz.pk9 hy, Result.andThen_ok, run_equalIn_string w d 9 a b Tryz.eu9, Result.andThen_ok]
  cases (a.toList == b.toList) <;> simp
theorem eqF_nil (w : World) (d : Nat) (xs ys : Array Value) : (Op.eqFields d xs ys []).run Tryz.prog w = .ok true w := by
  rw [Op.eqFields]; rfl
theorem eql78 (w : World) (a0 a1 a2 a3 a4 b0 b1 b2 b3 b4 : ByteArray) :
    (Op.equalIn 10000 121 (.agg #[.string a0, .string a1, .string a2, .string a3, .string a4]) (.agg #[.string b0, .string b1, .string b2, .string b3, .string b4])).run Tryz.prog w = .ok ((a0.toList == b0.toList) && ((a1.toList == b1.toList) && ((a2.toList == b2.toList) && ((a3.toList == b3.toList) && (a4.toList == b4.toList))))) w := by
  rw [run_equalIn_struct w 9999 121 _ _ Tryz.eu78 Tryz.sh78]
  have h := Tryz.fs78
  generalize (Tryz.prog.fieldsOf 121).toList = l at h
  rcases l with _ | ⟨f0, _ | ⟨f1, _ | ⟨f2, _ | ⟨f3, _ | ⟨f4, _ | ⟨f5, l⟩⟩⟩⟩⟩⟩
  all_goals first
    | (exfalso; have := congrArg List.length h; simp at this; done)
    | skip
  · simp only [List.map_cons, List.map_nil, List.cons.injEq, Prod.mk.injEq, and_true] at h
    obtain ⟨⟨n0, t0, o0⟩, ⟨n1, t1, o1⟩, ⟨n2, t2, o2⟩, ⟨n3, t3, o3⟩, ⟨n4, t4, o4⟩⟩ := h
    rw [eqF_cons w 9998 _ _ f0 _ a0 b0 (by rw [n0]; decide) t0 (by rw [o0]; rfl) (by rw [o0]; rfl)]
    rw [eqF_cons w 9998 _ _ f1 _ a1 b1 (by rw [n1]; decide) t1 (by rw [o1]; rfl) (by rw [o1]; rfl)]
    rw [eqF_cons w 9998 _ _ f2 _ a2 b2 (by rw [n2]; decide) t2 (by rw [o2]; rfl) (by rw [o2]; rfl)]
    rw [eqF_cons w 9998 _ _ f3 _ a3 b3 (by rw [n3]; decide) t3 (by rw [o3]; rfl) (by rw [o3]; rfl)]
    rw [eqF_cons w 9998 _ _ f4 _ a4 b4 (by rw [n4]; decide) t4 (by rw [o4]; rfl) (by rw [o4]; rfl)]
    rw [eqF_nil]
    cases (a0.toList == b0.toList) <;> cases (a1.toList == b1.toList) <;> cases (a2.toList == b2.toList) <;> cases (a3.toList == b3.toList) <;> cases (a4.toList == b4.toList) <;> rfl
end Go.Proofs.YtpggfgjongkihaaGreat
