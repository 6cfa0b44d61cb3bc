/- Layer 6: the reach of what comes in. -/
import Derived.Test.YtlapemeoffpmgaaCloLw
import Derived.SizedLaws
namespace Go.Proofs.Ytlapemeoffpmgaa
set_option linter.unusedSimpArgs false
set_option linter.unusedVariables false
open Go.RowKit

open Go.ChangeShapes Go.WideShapes Go.ChangeAt Go.Deep
theorem trodReach {P : Program} {H : Type} {enc : TypeId × Value → H} {w : World} {base : Nat} {spare : Nat → Bool} {held : Bool} {t e : TypeId} {A : Option Addr} {n cap : Nat} {d : DataW H} {p : List MemPlace} {ts : List TypeId} {ds : List (DataW H)} {j : Nat} (h : DataW.Trod enc P w base spare held t (.slice A n cap) d p) (hu : P.underlying t = some (.slice e)) (hb : P.bytesOf e = 48)
    (hs : (DataW.weightsEach P ts ds).all (· ≤ reachBytes) = true) (ht : ts[j]? = some t) (hd : ds[j]? = some d) : n * 48 ≤ 140737488351232 := by
  obtain ⟨fuel, hf⟩ := h
  rcases open_slice hu hf with ⟨h1, _⟩ | ⟨a, len, cap', m, n', D, Pl, h1, _, hl, hm, hmm, h2, _⟩
  · simp [Value.cells] at h1
    omega
  · simp [Value.cells] at h1
    obtain ⟨_, rfl, _⟩ := h1
    simp only [Prod.mk.injEq] at h2
    obtain ⟨rfl, _⟩ := h2
    have h3 := sized_slice hs ht hd hu
    rw [hb] at h3
    simp only [List.length_map, List.length_range, reachBytes] at h3
    omega

end Go.Proofs.Ytlapemeoffpmgaa
