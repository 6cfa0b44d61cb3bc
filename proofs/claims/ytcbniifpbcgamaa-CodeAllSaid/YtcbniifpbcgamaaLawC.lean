/- Slices that come in: their capacity. -/
import Derived.Test.YtcbniifpbcgamaaLawB
namespace Go.Proofs.Ytcbniifpbcgamaa
set_option linter.unusedSimpArgs false
set_option linter.unusedVariables false
open Go.RowKit

open Go.ChangeShapes Go.WideShapes Go.ChangeAt Go.RowKit Go.Deep
section
variable {H : Type} {enc : TypeId × Value → H} {P : Program} {w : World} {base : Nat} {spare : Nat → Bool} {held : Bool}
theorem openIntsC {r : Reach} {b0 : Nat} {t e : TypeId} {k : IntKind} {v : Value} {d : DataW H} {p : List MemPlace} (ht : P.underlying t = some (.slice e)) (hk : P.underlying e = some (.int k)) (hc : P.cellsOf e = 1)
    (hv : Value.okWide P w r b0 t v) (h : DataW.Trod enc P w base spare held t v d p) :
    ∃ (A : Option Addr) (cap : Nat) (zs : List Int), v = .slice A zs.length cap ∧ zs.length ≤ maxLen ∧ SlAt w A (zs.map (Value.int k)) ∧ (∀ z ∈ zs, (Lit.int k z).wf = true) ∧ zs.length ≤ cap ∧ cap ≤ maxLen ∧ (A = none → zs.length = 0 ∧ cap = 0) := by
  obtain ⟨A, cap, zs, rfl, h1, h2, h3⟩ := openInts ht hk hc hv h
  obtain ⟨fuel, hf⟩ := h
  refine ⟨A, cap, zs, rfl, h1, h2, h3, ?_⟩
  rcases open_ints ht hk hc hf with ⟨hcs, _⟩ | ⟨a, len', cap', zs', hcs, _, hl, hm, _, _, _, _⟩
  · simp [Value.cells] at hcs
    obtain ⟨rfl, hz, rfl⟩ := hcs
    simp [hz]
  · simp [Value.cells] at hcs
    obtain ⟨rfl, rfl, rfl⟩ := hcs
    exact ⟨hl, hm, fun h => by cases h⟩
end

end Go.Proofs.Ytcbniifpbcgamaa
