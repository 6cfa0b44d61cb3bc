/- Slices that come in: their elements' cells, opened. -/
import Derived.Test.YtgpeabbbeidhpaaLaw
namespace Go.Proofs.Ytgpeabbbeidhpaa
set_option linter.unusedSimpArgs false
set_option linter.unusedVariables false
open Go.ChangeShapes Go.WideShapes Go.ChangeAt Go.RowKit Go.Deep

/-- The cells of a slice whose elements are n cells each. -/
def SlAtN (w : World) (A : Option Addr) (n : Nat) (xs : List (List Value)) : Prop :=
  0 < xs.length → ∃ b o, A = some ⟨b, o, none⟩ ∧ b < w.heap.size ∧ ∀ i (h : i < xs.length), ∀ j, j < n → w.cell? ⟨b, o + i * n + j, none⟩ = (xs[i])[j]?
theorem SlAtN.ext {w w' : World} {A : Option Addr} {n : Nat} {xs : List (List Value)} (h : SlAtN w A n xs) (e : Ext w w') : SlAtN w' A n xs := fun h0 => by
  obtain ⟨b, o, hA, hb, hc⟩ := h h0
  exact ⟨b, o, hA, Nat.lt_of_lt_of_le hb e.size, fun i hi j hj => by rw [e.cells b _ hb]; exact hc i hi j hj⟩

section
variable {H : Type} {enc : TypeId × Value → H} {P : Program} {w : World} {base : Nat} {spare : Nat → Bool} {held : Bool}

/-- A slice that came in, whose elements are opened by a rule. -/
theorem openRows {α : Type} [Inhabited α] {r : Reach} {b0 : Nat} {t e : TypeId} {n : Nat} (f : α → List Value) (good : α → Prop) (ht : P.underlying t = some (.slice e)) (hc : P.cellsOf e = n) (hn : 0 < n)
    (hx : ∀ (m : Nat) (cs : List Value) (x : DataW H × List MemPlace), DataW.trod enc P w base spare held m e cs = some x → ∃ z, cs = f z ∧ good z) {v : Value} {d : DataW H} {p : List MemPlace}
    (hv : Value.okWide P w r b0 t v) (h : DataW.Trod enc P w base spare held t v d p) :
    ∃ (A : Option Addr) (cap : Nat) (zs : List α), v = .slice A zs.length cap ∧ zs.length ≤ maxLen ∧ SlAtN w A n (zs.map f) ∧ ∀ z ∈ zs, good z := by
  obtain ⟨a0, len, cap, rfl⟩ := okWide_slice ht hv
  obtain ⟨fuel, hf⟩ := h
  rcases open_slice ht hf with ⟨hcs, _⟩ | ⟨a, len', cap', m, n', D, Pl, hcs, _, hl, hm, hmm, _, hg⟩
  · simp [Value.cells] at hcs
    obtain ⟨rfl, rfl, rfl⟩ := hcs
    exact ⟨none, 0, [], rfl, by simp, fun h => absurd h (by simp), by simp⟩
  · simp [Value.cells] at hcs
    obtain ⟨rfl, rfl, rfl⟩ := hcs
    have hlm : len ≤ m := by rw [hmm]; split <;> omega
    rw [hc] at hg
    obtain ⟨V, hV⟩ := choose_lt (n := len) (α := α) (p := fun i z => good z ∧ (f z).length = n ∧ ∀ j, j < n → w.cell? ((a.add (i * n)).add j) = (f z)[j]?) (fun i hi => by
      obtain ⟨cs', h1, h2⟩ := hg i (by omega)
      obtain ⟨_, hlen, hcell⟩ := World.cells?_some h1
      obtain ⟨z, rfl, hz⟩ := hx _ _ _ h2
      exact ⟨z, hz, hlen, hcell⟩)
    refine ⟨some a, cap, (List.range len).map V, by simp, by simpa using Nat.le_trans hl hm, ?_, ?_⟩
    · intro h0
      have hlen0 : 0 < len := by simpa using h0
      obtain ⟨_, hl0, hc0⟩ := hV 0 hlen0
      have hc00 := hc0 0 hn
      obtain ⟨b, o, sp⟩ := a
      have hsome : ((f (V 0))[0]?).isSome = true := by simp [hl0, hn]
      rw [← hc00] at hsome
      have hsp : sp = none := by
        cases sp with
        | none => rfl
        | some x =>
          simp [Addr.add, World.cell?] at hsome
          split at hsome <;> simp at hsome
      subst hsp
      have hb : b < w.heap.size := by
        simp [Addr.add, World.cell?] at hsome
        split at hsome
        · rename_i h
          exact (Array.getElem?_eq_some_iff.1 h).1
        · simp at hsome
      refine ⟨b, o, rfl, hb, fun i hi j hj => ?_⟩
      have hi' : i < len := by simpa using hi
      have := (hV i hi').2.2 j hj
      rw [Addr.add_lit, Addr.add_lit] at this
      rw [this]
      simp
    · intro z hz
      obtain ⟨i, hi, rfl⟩ := List.mem_map.1 hz
      exact (hV i (by simpa using hi)).1

theorem SlAt.of1 {α : Type} {A : Option Addr} {zs : List α} {f : α → Value} (h : SlAtN w A 1 (zs.map fun z => [f z])) : SlAt w A (zs.map f) := fun h0 => by
  obtain ⟨b, o, hA, hb, hc⟩ := h (by simpa using h0)
  refine ⟨b, o, hA, hb, fun j hj => ?_⟩
  have := hc j (by simpa using hj) 0 (by omega)
  simpa using this

theorem openBools {r : Reach} {b0 : Nat} {t e : TypeId} {v : Value} {d : DataW H} {p : List MemPlace} (ht : P.underlying t = some (.slice e)) (hk : P.underlying e = some .bool) (hc : P.cellsOf e = 1)
    (hv : Value.okWide P w r b0 t v) (h : DataW.Trod enc P w base spare held t v d p) :
    ∃ (A : Option Addr) (cap : Nat) (zs : List Bool), v = .slice A zs.length cap ∧ zs.length ≤ maxLen ∧ SlAt w A (zs.map Value.bool) := by
  obtain ⟨A, cap, zs, h1, h2, h3, _⟩ := openRows (α := Bool) (fun z => [.bool z]) (fun _ => True) ht hc (by omega) (fun m cs x hx => by
    obtain ⟨b, hb, _⟩ := DataW.trod_bool hk hx
    exact ⟨b, hb, trivial⟩) hv h
  exact ⟨A, cap, zs, h1, h2, SlAt.of1 h3⟩
end
end Go.Proofs.Ytgpeabbbeidhpaa
