/- MOpenS: OpenS -/
import Derived.Test.YthamfkbopjagdaaMSha
namespace Go.Proofs.Ythamfkbopjagdaa
set_option maxRecDepth 100000
set_option linter.unusedSimpArgs false
set_option linter.unusedVariables false
open Go.RowKit


structure SOp where
  f : Int
  t : Int
  b : Bool
def SOp.cells (x : SOp) : List Value := [.int .i64 x.f, .int .i64 x.t, .bool x.b]
instance : Inhabited SOp := ⟨⟨0, 0, false⟩⟩
def wfS (x : SOp) : Prop := (Lit.int .i64 x.f).wf = true ∧ (Lit.int .i64 x.t).wf = true
open Go.ChangeShapes Go.WideShapes Go.ChangeAt Go.RowKit Go.Deep
section
variable {H : Type} {enc : TypeId × Value → H} {w : World} {base : Nat} {spare : Nat → Bool} {held : Bool} {fuel : Nat} {cs : List Value} {x : DataW H × List MemPlace}

theorem trodOp (h : DataW.trod enc Try.prog w base spare held fuel 43 cs = some x) : ∃ z : SOp, cs = z.cells ∧ wfS z := by
  obtain ⟨xs, n, _, _, hcl, hlen, hg⟩ := DataW.trod_struct Try.underlying43 h
  have hl : cs.length = 3 := hcl.trans (by kernel_rfl)
  have z0 : Try.prog.cellsOf 4 = 1 := by kernel_rfl
  have z1 : Try.prog.cellsOf 3 = 1 := by kernel_rfl
  match cs, hl with
  | [c0, c1, c2], _ =>
    have g0 : DataW.trod enc Try.prog w base spare held n 3 (([c0, c1, c2].drop 0).take (Try.prog.cellsOf 3)) = xs[0]? := hg 0 _ rfl
    rw [z1, List.getElem?_eq_getElem (by rw [hlen]; decide)] at g0
    have g1 : DataW.trod enc Try.prog w base spare held n 3 (([c0, c1, c2].drop 1).take (Try.prog.cellsOf 3)) = xs[1]? := hg 1 _ rfl
    rw [z1, List.getElem?_eq_getElem (by rw [hlen]; decide)] at g1
    have g2 : DataW.trod enc Try.prog w base spare held n 4 (([c0, c1, c2].drop 2).take (Try.prog.cellsOf 4)) = xs[2]? := hg 2 _ rfl
    rw [z0, List.getElem?_eq_getElem (by rw [hlen]; decide)] at g2
    obtain ⟨f, e0, _, k0⟩ := DataW.trod_int Try.underlying3 g0
    obtain ⟨t, e1, _, k1⟩ := DataW.trod_int Try.underlying3 g1
    obtain ⟨b, e2, _⟩ := DataW.trod_bool Try.underlying4 g2
    simp at e0 e1 e2
    subst e0
    subst e1
    subst e2
    exact ⟨⟨f, t, b⟩, rfl, k0, k1⟩
end

theorem op_at {w : World} {A : Option Addr} {zs : List SOp} (h : SlAtN w A 3 (zs.map SOp.cells)) {k : Nat} (hk : k < zs.length) (z : SOp) (hz : zs[k] = z) : ∃ b o, A = some ⟨b, o, none⟩ ∧ b < w.heap.size ∧
    w.cell? ⟨b, o + k * 3, none⟩ = some (.int .i64 z.f) ∧ w.cell? ⟨b, o + k * 3 + 1, none⟩ = some (.int .i64 z.t) ∧ w.cell? ⟨b, o + k * 3 + 2, none⟩ = some (.bool z.b) := by
  obtain ⟨b, o, hA, hb, hc⟩ := h (by simp; omega)
  subst hz
  refine ⟨b, o, hA, hb, ?_, ?_, ?_⟩
  · have := hc k (by simpa using hk) 0 (by omega); simpa [SOp.cells] using this
  · have := hc k (by simpa using hk) 1 (by omega); simpa [SOp.cells] using this
  · have := hc k (by simpa using hk) 2 (by omega); simpa [SOp.cells] using this
theorem wfi64 {n : Int} (h : (Lit.int .i64 n).wf = true) : -9223372036854775808 ≤ n ∧ n ≤ 9223372036854775807 := by
  simpa [Lit.wf, IntKind.min, IntKind.max, IntKind.signed, IntKind.bits] using h
theorem wfu16 {n : Int} (h : (Lit.int .u16 n).wf = true) : 0 ≤ n ∧ n ≤ 65535 := by
  simpa [Lit.wf, IntKind.min, IntKind.max, IntKind.signed, IntKind.bits] using h
theorem wfu8 {n : Int} (h : (Lit.int .u8 n).wf = true) : 0 ≤ n ∧ n ≤ 255 := by
  simpa [Lit.wf, IntKind.min, IntKind.max, IntKind.signed, IntKind.bits] using h
/-- What one painted last. -/
theorem paintP_at {n g : Nat} {P : Nat → Bool} {f t : Int} {b : Bool} {K : Nat} (hg : K / 16 = g) (hf : fineP n f t = true) : paintP n P f t b g = if (f ≤ 16 * (g : Int) ∧ (K : Int) < t) then b else P g := by
  have hf2 := hf
  unfold fineP at hf2
  simp only [Bool.and_eq_true, decide_eq_true_eq] at hf2
  obtain ⟨h1, h2, h3, h4, h5⟩ := hf2
  unfold paintP updR
  rw [hf]
  simp only [if_true]
  by_cases hc : f ≤ 16 * (g : Int) ∧ (K : Int) < t
  · rw [if_pos hc, if_pos (by omega)]
  · rw [if_neg hc, if_neg (by omega)]
end Go.Proofs.Ythamfkbopjagdaa
