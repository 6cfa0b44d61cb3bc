/- Instructions that come in. -/
import Derived.Test.YtdhpbofpomefoaaDoorMBase
namespace Go.Proofs.YtdhpbofpomefoaaDoor
set_option linter.unusedSimpArgs false
set_option linter.unusedVariables false
open Go.RowKit


section
variable {H : Type} {enc : TypeId × Value → H} {P : Program} {w : World} {base : Nat} {spare : Nat → Bool} {held : Bool}
open Go.ChangeShapes Go.WideShapes Go.ChangeAt Go.RowKit Go.Deep
/-- An instruction that came in by value. -/
theorem openIns {r : Reach} {b0 : Nat} {T : TypeId} {f0 f1 f2 f3 : Field} {v : Value} {d : DataW H} {p : List MemPlace} (hs : P.underlying T = some (.struct #[f0, f1, f2, f3]))
    (hone : oneCellFields P #[f0, f1, f2, f3] = true) (hC : P.cellsOf T = 4)
    (k0 : P.underlying f0.type = some (.int .i64)) (k1 : P.underlying f1.type = some (.int .i64)) (k2 : P.underlying f2.type = some (.int .i64)) (k3 : P.underlying f3.type = some (.int .i64))
    (hv : Value.okWide P w r b0 T v) (h : DataW.Trod enc P w base spare held T v d p) :
    ∃ (x0 x1 x2 x3 : Int), v = .agg #[.int .i64 x0, .int .i64 x1, .int .i64 x2, .int .i64 x3] ∧ (Lit.int .i64 x0).wf = true ∧ (Lit.int .i64 x1).wf = true ∧ (Lit.int .i64 x2).wf = true ∧ (Lit.int .i64 x3).wf = true := by
  obtain ⟨cs, rfl, hsz⟩ := okWide_struct hs hv
  obtain ⟨l⟩ := cs
  match l, hsz.trans hC with
  | [c0, c1, c2, c3], _ =>
    obtain ⟨fuel, hf⟩ := h
    obtain ⟨xs, n, _, hx, _, hlen, hg⟩ := DataW.trod_struct hs hf
    have fld : ∀ (i : Nat) (f : Field), #[f0, f1, f2, f3][i]? = some f → ∃ y, DataW.trod enc P w base spare held n f.type (([c0, c1, c2, c3].drop i).take 1) = some y := by
      intro i f hi
      obtain ⟨o, k⟩ := hone_of hone i f hi
      have := hg i f hi
      rw [o, k] at this
      have hlt : i < xs.length := by
        rw [hlen]
        exact (Array.getElem?_eq_some_iff.1 hi).1
      exact ⟨xs[i], by rw [List.getElem?_eq_getElem hlt] at this; exact this⟩
    obtain ⟨y0, g0⟩ := fld 0 f0 rfl
    obtain ⟨y1, g1⟩ := fld 1 f1 rfl
    obtain ⟨y2, g2⟩ := fld 2 f2 rfl
    obtain ⟨y3, g3⟩ := fld 3 f3 rfl
    obtain ⟨x0, e0, _, w0⟩ := DataW.trod_int k0 g0
    obtain ⟨x1, e1, _, w1⟩ := DataW.trod_int k1 g1
    obtain ⟨x2, e2, _, w2⟩ := DataW.trod_int k2 g2
    obtain ⟨x3, e3, _, w3⟩ := DataW.trod_int k3 g3
    simp only [List.drop, List.take, List.cons.injEq, and_true] at e0 e1 e2 e3
    subst e0 e1 e2 e3
    exact ⟨x0, x1, x2, x3, rfl, w0, w1, w2, w3⟩
end

end Go.Proofs.YtdhpbofpomefoaaDoor
