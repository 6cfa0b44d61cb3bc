/- Layer 16: instructions that come in, in a row. -/
import Derived.Test.YtdhpbofpomefoaaDoorAsmJ
import Derived.Test.YtdhpbofpomefoaaDoorMBase
namespace Go.Proofs.YtdhpbofpomefoaaDoor
set_option linter.unusedSimpArgs false
set_option linter.unusedVariables false
open Go.RowKit
set_option maxRecDepth 100000

open Go.ChangeShapes Go.WideShapes Go.ChangeAt Go.RowKit Go.Deep
section
variable {H : Type} {enc : TypeId × Value → H} {w : World} {base : Nat} {spare : Nat → Bool} {held : Bool} {fuel : Nat} {cs : List Value} {x : DataW H × List MemPlace}

theorem trodSlice {P : Program} {α : Type} [Inhabited α] {t e : TypeId} {n : Nat} (f : α → List Value) (good : α → Prop) (ht : P.underlying t = some (.slice e)) (hc : P.cellsOf e = n) (hn : 0 < n)
    (hx : ∀ (m : Nat) (cs : List Value) (x : DataW H × List MemPlace), DataW.trod enc P w base spare held m e cs = some x → ∃ z, cs = f z ∧ good z)
    (h : DataW.trod enc P w base spare held fuel t cs = some x) :
    ∃ (A : Option Addr) (cap : Nat) (zs : List α), cs = [.slice A zs.length cap] ∧ zs.length ≤ cap ∧ cap ≤ maxLen ∧ SlAtN w A n (zs.map f) ∧ ∀ z ∈ zs, good z := by
  rcases open_slice ht h with ⟨rfl, _⟩ | ⟨a, len, cap, m, n', D, Pl, rfl, _, hl, hm, hmm, _, hg⟩
  · exact ⟨none, 0, [], rfl, by simp, by simp, fun h => absurd h (by simp), by simp⟩
  · have hlm : len ≤ m := by rw [hmm]; split <;> omega
    rw [hc] at hg
    obtain ⟨V, hV⟩ := choose_lt (n := len) (α := α) (p := fun i z => good z ∧ (f z).length = n ∧ ∀ j, j < n → w.cell? ((a.add (i * n)).add j) = (f z)[j]?) (fun i hi => by
      obtain ⟨cs', h1, h2⟩ := hg i (by omega)
      obtain ⟨_, hlen, hcell⟩ := World.cells?_some h1
      obtain ⟨z, rfl, hz⟩ := hx _ _ _ h2
      exact ⟨z, hz, hlen, hcell⟩)
    refine ⟨some a, cap, (List.range len).map V, by simp, by simpa using hl, hm, ?_, ?_⟩
    · intro h0
      have hlen0 : 0 < len := by simpa using h0
      obtain ⟨_, hl0, hc0⟩ := hV 0 hlen0
      have hc00 := hc0 0 hn
      obtain ⟨b, o, sp⟩ := a
      have hsome : ((f (V 0))[0]?).isSome = true := by simp [hl0, hn]
      rw [← hc00] at hsome
      have hsp : sp = none := by
        cases sp with
        | none => rfl
        | some x =>
          simp [Addr.add, World.cell?] at hsome
          split at hsome <;> simp at hsome
      subst hsp
      have hb : b < w.heap.size := by
        simp [Addr.add, World.cell?] at hsome
        split at hsome
        · rename_i h
          exact (Array.getElem?_eq_some_iff.1 h).1
        · simp at hsome
      refine ⟨b, o, rfl, hb, fun i hi j hj => ?_⟩
      have hi' : i < len := by simpa using hi
      have := (hV i hi').2.2 j hj
      rw [Addr.add_lit, Addr.add_lit] at this
      rw [this]
      simp
    · intro z hz
      obtain ⟨i, hi, rfl⟩ := List.mem_map.1 hz
      exact (hV i (by simpa using hi)).1
theorem trodArgSlice {P : Program} {α : Type} [Inhabited α] {r : Reach} {b0 : Nat} {t e : TypeId} {n : Nat} (f : α → List Value) (good : α → Prop) (ht : P.underlying t = some (.slice e)) (hc : P.cellsOf e = n) (hn : 0 < n)
    (hx : ∀ (m : Nat) (cs : List Value) (x : DataW H × List MemPlace), DataW.trod enc P w base spare held m e cs = some x → ∃ z, cs = f z ∧ good z) {v : Value} {d : DataW H} {p : List MemPlace}
    (hv : Value.okWide P w r b0 t v) (h : DataW.Trod enc P w base spare held t v d p) :
    ∃ (A : Option Addr) (cap : Nat) (zs : List α), v = .slice A zs.length cap ∧ zs.length ≤ cap ∧ cap ≤ maxLen ∧ SlAtN w A n (zs.map f) ∧ ∀ z ∈ zs, good z := by
  obtain ⟨a0, len, cap, rfl⟩ := okWide_slice ht hv
  obtain ⟨fuel, hf⟩ := h
  obtain ⟨A, cap', zs, hcs, h1, h2, h3, h4⟩ := trodSlice f good ht hc hn hx hf
  simp [Value.cells] at hcs
  obtain ⟨rfl, rfl, rfl⟩ := hcs
  exact ⟨_, _, zs, rfl, h1, h2, h3, h4⟩

instance : Inhabited In := ⟨⟨0, 0, 0, 0⟩⟩
def wfI (x : In) : Prop := (Lit.int .i64 x.op).wf = true ∧ (Lit.int .i64 x.a).wf = true ∧ (Lit.int .i64 x.b).wf = true ∧ (Lit.int .i64 x.c).wf = true
theorem trodIns (h : DataW.trod enc Tryd.prog w base spare held fuel 23 cs = some x) : ∃ z : In, cs = insC z ∧ wfI z := by
  obtain ⟨xs, n, _, _, hcl, hlen, hg⟩ := DataW.trod_struct Tryd.underlying23 h
  have hl : cs.length = 4 := hcl.trans (by kernel_rfl)
  have z0 : Tryd.prog.cellsOf 3 = 1 := by kernel_rfl
  match cs, hl with
  | [c0, c1, c2, c3], _ =>
    have g0 : DataW.trod enc Tryd.prog w base spare held n 3 (([c0, c1, c2, c3].drop 0).take (Tryd.prog.cellsOf 3)) = xs[0]? := hg 0 _ rfl
    rw [z0, List.getElem?_eq_getElem (by rw [hlen]; decide)] at g0
    have g1 : DataW.trod enc Tryd.prog w base spare held n 3 (([c0, c1, c2, c3].drop 1).take (Tryd.prog.cellsOf 3)) = xs[1]? := hg 1 _ rfl
    rw [z0, List.getElem?_eq_getElem (by rw [hlen]; decide)] at g1
    have g2 : DataW.trod enc Tryd.prog w base spare held n 3 (([c0, c1, c2, c3].drop 2).take (Tryd.prog.cellsOf 3)) = xs[2]? := hg 2 _ rfl
    rw [z0, List.getElem?_eq_getElem (by rw [hlen]; decide)] at g2
    have g3 : DataW.trod enc Tryd.prog w base spare held n 3 (([c0, c1, c2, c3].drop 3).take (Tryd.prog.cellsOf 3)) = xs[3]? := hg 3 _ rfl
    rw [z0, List.getElem?_eq_getElem (by rw [hlen]; decide)] at g3
    obtain ⟨op, e0, _, k0⟩ := DataW.trod_int Tryd.underlying3 g0
    obtain ⟨a, e1, _, k1⟩ := DataW.trod_int Tryd.underlying3 g1
    obtain ⟨b, e2, _, k2⟩ := DataW.trod_int Tryd.underlying3 g2
    obtain ⟨c, e3, _, k3⟩ := DataW.trod_int Tryd.underlying3 g3
    simp at e0 e1 e2 e3
    subst e0
    subst e1
    subst e2
    subst e3
    exact ⟨⟨op, a, b, c⟩, rfl, k0, k1, k2, k3⟩
end

end Go.Proofs.YtdhpbofpomefoaaDoor
