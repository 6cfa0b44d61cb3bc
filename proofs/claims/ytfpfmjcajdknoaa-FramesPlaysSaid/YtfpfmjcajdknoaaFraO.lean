/- Layer 19: frames compared. -/
import Derived.Test.YtfpfmjcajdknoaaFraK
import Derived.Test.YtfpfmjcajdknoaaOpen
import Derived.ChangeKeysEq
namespace Go.Proofs.Ytfpfmjcajdknoaa
set_option linter.unusedSimpArgs false
set_option linter.unusedVariables false
open Go.RowKit

theorem cap_equal (d : Nat) (t : Bool) (b tp a p ty : Int) (w : World) : (Op.equalIn (d + 2) 29 (.agg #[.bool t, .int .i64 b, .int .i64 tp, .int .i64 a, .int .i64 p, .int .i64 ty]) (.agg #[.bool t, .int .i64 b, .int .i64 tp, .int .i64 a, .int .i64 p, .int .i64 ty])).run Try.prog w = .ok true w := by
  simp [go_sem]
theorem partC (xs : Array Value) (off : Nat) (w : World) : (part 29 xs off).run Try.prog w = .ok (.agg (xs.extract off (off + 6))) w := by
  obtain ⟨i, hi, _, hs, _⟩ := info_parts info_cap
  simp [part, isAgg, run_underlying Try.underlying29, sizeOf, typeInfo, hi, hs]
theorem part4 (xs : Array Value) (off : Nat) (w : World) : (part 30 xs off).run Try.prog w = .ok (.agg (xs.extract off (off + 24))) w := by
  have h : (Try.prog.info? 30).map (·.size) = some 24 := by kernel_rfl
  cases hq : Try.prog.info? 30 with
  | none => simp [hq] at h
  | some i =>
    have hs : i.size = 24 := by simpa [hq] using h
    simp [part, isAgg, run_underlying Try.underlying30, sizeOf, typeInfo, hq, hs]
theorem four_equal (d : Nat) (F : Nat → Cap) (w : World) : (Op.equalIn (d + 3) 30 (.agg #[.bool (F 1).tag, .int .i64 (F 1).base, .int .i64 (F 1).top, .int .i64 (F 1).at_, .int .i64 (F 1).perms, .int .i64 (F 1).type, .bool (F 2).tag, .int .i64 (F 2).base, .int .i64 (F 2).top, .int .i64 (F 2).at_, .int .i64 (F 2).perms, .int .i64 (F 2).type, .bool (F 3).tag, .int .i64 (F 3).base, .int .i64 (F 3).top, .int .i64 (F 3).at_, .int .i64 (F 3).perms, .int .i64 (F 3).type, .bool (F 4).tag, .int .i64 (F 4).base, .int .i64 (F 4).top, .int .i64 (F 4).at_, .int .i64 (F 4).perms, .int .i64 (F 4).type]) (.agg #[.bool (F 1).tag, .int .i64 (F 1).base, .int .i64 (F 1).top, .int .i64 (F 1).at_, .int .i64 (F 1).perms, .int .i64 (F 1).type, .bool (F 2).tag, .int .i64 (F 2).base, .int .i64 (F 2).top, .int .i64 (F 2).at_, .int .i64 (F 2).perms, .int .i64 (F 2).type, .bool (F 3).tag, .int .i64 (F 3).base, .int .i64 (F 3).top, .int .i64 (F 3).at_, .int .i64 (F 3).perms, .int .i64 (F 3).type, .bool (F 4).tag, .int .i64 (F 4).base, .int .i64 (F 4).top, .int .i64 (F 4).at_, .int .i64 (F 4).perms, .int .i64 (F 4).type])).run Try.prog w = .ok true w := by
  obtain ⟨i, hi, _⟩ := info_parts info_cap
  rw [run_equalIn_array w (d + 2) _ _ Try.underlying30 hi]
  have hc : Try.prog.cellsOf 29 = 6 := by kernel_rfl
  simp [Op.eqItems, hc, List.range_succ, cap_equal, partC, Result.andThen]
theorem frame_equal (F : Nat → Cap) (w : World) : (Op.equal 32 (.agg #[.bool (F 0).tag, .int .i64 (F 0).base, .int .i64 (F 0).top, .int .i64 (F 0).at_, .int .i64 (F 0).perms, .int .i64 (F 0).type, .bool (F 1).tag, .int .i64 (F 1).base, .int .i64 (F 1).top, .int .i64 (F 1).at_, .int .i64 (F 1).perms, .int .i64 (F 1).type, .bool (F 2).tag, .int .i64 (F 2).base, .int .i64 (F 2).top, .int .i64 (F 2).at_, .int .i64 (F 2).perms, .int .i64 (F 2).type, .bool (F 3).tag, .int .i64 (F 3).base, .int .i64 (F 3).top, .int .i64 (F 3).at_, .int .i64 (F 3).perms, .int .i64 (F 3).type, .bool (F 4).tag, .int .i64 (F 4).base, .int .i64 (F 4).top, .int .i64 (F 4).at_, .int .i64 (F 4).perms, .int .i64 (F 4).type]) (.agg #[.bool (F 0).tag, .int .i64 (F 0).base, .int .i64 (F 0).top, .int .i64 (F 0).at_, .int .i64 (F 0).perms, .int .i64 (F 0).type, .bool (F 1).tag, .int .i64 (F 1).base, .int .i64 (F 1).top, .int .i64 (F 1).at_, .int .i64 (F 1).perms, .int .i64 (F 1).type, .bool (F 2).tag, .int .i64 (F 2).base, .int .i64 (F 2).top, .int .i64 (F 2).at_, .int .i64 (F 2).perms, .int .i64 (F 2).type, .bool (F 3).tag, .int .i64 (F 3).base, .int .i64 (F 3).top, .int .i64 (F 3).at_, .int .i64 (F 3).perms, .int .i64 (F 3).type, .bool (F 4).tag, .int .i64 (F 4).base, .int .i64 (F 4).top, .int .i64 (F 4).at_, .int .i64 (F 4).perms, .int .i64 (F 4).type])).run Try.prog w = .ok true w := by
  unfold Op.equal
  show (Op.equalIn (9999 + 1) _ _ _).run _ _ = _
  rw [run_equalIn_struct w 9999 _ _ _ (by kernel_rfl) (by kernel_rfl)]
  have h4 := four_equal 9996 F w
  have h6 := cap_equal 9997 (F 0).tag (F 0).base (F 0).top (F 0).at_ (F 0).perms (F 0).type w
  have hm : (Try.prog.fieldsOf 32).toList.map (fun f => (f.type, f.offset, decide (f.name = "_"))) = [(29, 0, false), (30, 6, false)] := by kernel_rfl
  revert hm
  match (Try.prog.fieldsOf 32).toList with
  | [] | [_] | _ :: _ :: _ :: _ => intro hm; simp at hm
  | [f0, f1] =>
    intro hm
    simp at hm
    obtain ⟨⟨t0, o0, n0⟩, t1, o1, n1⟩ := hm
    simp [Op.eqFields, t0, o0, n0, t1, o1, n1, partC, part4, h4, h6, Result.andThen]
theorem frame_ne (F : Nat → Cap) (o : Oper) (x y : Operand) (s : TypeId) (ρ : Operand → Value) (ho : o.op = .binOp .neq 32 x y s) (hx : ρ x = .agg #[.bool (F 0).tag, .int .i64 (F 0).base, .int .i64 (F 0).top, .int .i64 (F 0).at_, .int .i64 (F 0).perms, .int .i64 (F 0).type, .bool (F 1).tag, .int .i64 (F 1).base, .int .i64 (F 1).top, .int .i64 (F 1).at_, .int .i64 (F 1).perms, .int .i64 (F 1).type, .bool (F 2).tag, .int .i64 (F 2).base, .int .i64 (F 2).top, .int .i64 (F 2).at_, .int .i64 (F 2).perms, .int .i64 (F 2).type, .bool (F 3).tag, .int .i64 (F 3).base, .int .i64 (F 3).top, .int .i64 (F 3).at_, .int .i64 (F 3).perms, .int .i64 (F 3).type, .bool (F 4).tag, .int .i64 (F 4).base, .int .i64 (F 4).top, .int .i64 (F 4).at_, .int .i64 (F 4).perms, .int .i64 (F 4).type]) (hy : ρ y = .agg #[.bool (F 0).tag, .int .i64 (F 0).base, .int .i64 (F 0).top, .int .i64 (F 0).at_, .int .i64 (F 0).perms, .int .i64 (F 0).type, .bool (F 1).tag, .int .i64 (F 1).base, .int .i64 (F 1).top, .int .i64 (F 1).at_, .int .i64 (F 1).perms, .int .i64 (F 1).type, .bool (F 2).tag, .int .i64 (F 2).base, .int .i64 (F 2).top, .int .i64 (F 2).at_, .int .i64 (F 2).perms, .int .i64 (F 2).type, .bool (F 3).tag, .int .i64 (F 3).base, .int .i64 (F 3).top, .int .i64 (F 3).at_, .int .i64 (F 3).perms, .int .i64 (F 3).type, .bool (F 4).tag, .int .i64 (F 4).base, .int .i64 (F 4).top, .int .i64 (F 4).at_, .int .i64 (F 4).perms, .int .i64 (F 4).type]) (w : World) : (execOp ρ o).run Try.prog w = .ok (.value (.bool false)) w := by
  have hg : (eqGuard .neq 32 x y (.agg #[.bool (F 0).tag, .int .i64 (F 0).base, .int .i64 (F 0).top, .int .i64 (F 0).at_, .int .i64 (F 0).perms, .int .i64 (F 0).type, .bool (F 1).tag, .int .i64 (F 1).base, .int .i64 (F 1).top, .int .i64 (F 1).at_, .int .i64 (F 1).perms, .int .i64 (F 1).type, .bool (F 2).tag, .int .i64 (F 2).base, .int .i64 (F 2).top, .int .i64 (F 2).at_, .int .i64 (F 2).perms, .int .i64 (F 2).type, .bool (F 3).tag, .int .i64 (F 3).base, .int .i64 (F 3).top, .int .i64 (F 3).at_, .int .i64 (F 3).perms, .int .i64 (F 3).type, .bool (F 4).tag, .int .i64 (F 4).base, .int .i64 (F 4).top, .int .i64 (F 4).at_, .int .i64 (F 4).perms, .int .i64 (F 4).type]) (.agg #[.bool (F 0).tag, .int .i64 (F 0).base, .int .i64 (F 0).top, .int .i64 (F 0).at_, .int .i64 (F 0).perms, .int .i64 (F 0).type, .bool (F 1).tag, .int .i64 (F 1).base, .int .i64 (F 1).top, .int .i64 (F 1).at_, .int .i64 (F 1).perms, .int .i64 (F 1).type, .bool (F 2).tag, .int .i64 (F 2).base, .int .i64 (F 2).top, .int .i64 (F 2).at_, .int .i64 (F 2).perms, .int .i64 (F 2).type, .bool (F 3).tag, .int .i64 (F 3).base, .int .i64 (F 3).top, .int .i64 (F 3).at_, .int .i64 (F 3).perms, .int .i64 (F 3).type, .bool (F 4).tag, .int .i64 (F 4).base, .int .i64 (F 4).top, .int .i64 (F 4).at_, .int .i64 (F 4).perms, .int .i64 (F 4).type])).run Try.prog w = .ok () w := run_eqGuard_agg w _ _ _ _ _ _ (by kernel_rfl)
  unfold execOp
  rw [ho]
  simp only [hx, hy, Sem.run_bind, hg, Result.andThen_ok, binOp, frame_equal, Sem.run_pure]
  rfl
theorem wpList_runG {P : Program} {ops : Array Oper} {rest : List Oper} {op : Oper} {a : Act} {w : World} {Q : Exit → Act → World → Prop} (hw : Region.wanted op (yielded ops a.tmps) = true) (v : Value) (h : ∀ w, (execOp a.eval op).run P w = .ok (.value v) w)
    (k : wpList P ops Q rest (a.put op.dst v) w) : wpList P ops Q (op :: rest) a w :=
  BigFrame.wpList_want hw fun K hK => by
    unfold Oper.wp
    rw [h w]
    exact hK _ _ k

end Go.Proofs.Ytfpfmjcajdknoaa
