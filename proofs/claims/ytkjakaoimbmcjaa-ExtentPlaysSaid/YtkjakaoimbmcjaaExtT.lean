/- Layer 12: data that come in; what fits. -/
import Derived.Test.YtkjakaoimbmcjaaExtS
import Derived.Test.YtkjakaoimbmcjaaLawB
namespace Go.Proofs.Ytkjakaoimbmcjaa
set_option linter.unusedSimpArgs false
set_option linter.unusedVariables false
open Go.RowKit

/-- A call. -/
structure EOp where
  what : Int
  at_ : Int
  n : Int
instance : Inhabited EOp := ⟨⟨0, 0, 0⟩⟩
def EOp.cells (z : EOp) : List Value := [.int .i64 z.what, .int .i64 z.at_, .int .i64 z.n]
def EOp.good (z : EOp) : Prop := (Lit.int .i64 z.what).wf = true ∧ (Lit.int .i64 z.at_).wf = true ∧ (Lit.int .i64 z.n).wf = true
open Go.ChangeShapes Go.WideShapes Go.ChangeAt Go.RowKit Go.Deep
section
variable {H : Type} {enc : TypeId × Value → H} {w : World} {base : Nat} {spare : Nat → Bool} {held : Bool} {fuel : Nat} {cs : List Value} {x : DataW H × List MemPlace}

theorem trodSlice {P : Program} {α : Type} [Inhabited α] {t e : TypeId} {n : Nat} (f : α → List Value) (good : α → Prop) (ht : P.underlying t = some (.slice e)) (hc : P.cellsOf e = n) (hn : 0 < n)
    (hx : ∀ (m : Nat) (cs : List Value) (x : DataW H × List MemPlace), DataW.trod enc P w base spare held m e cs = some x → ∃ z, cs = f z ∧ good z)
    (h : DataW.trod enc P w base spare held fuel t cs = some x) :
    ∃ (A : Option Addr) (cap : Nat) (zs : List α), cs = [.slice A zs.length cap] ∧ zs.length ≤ cap ∧ cap ≤ maxLen ∧ SlAtN w A n (zs.map f) ∧ ∀ z ∈ zs, good z := by
  rcases open_slice ht h with ⟨rfl, _⟩ | ⟨a, len, cap, m, n', D, Pl, rfl, _, hl, hm, hmm, _, hg⟩
  · exact ⟨none, 0, [], rfl, by simp, by simp, fun h => absurd h (by simp), by simp⟩
  · have hlm : len ≤ m := by rw [hmm]; split <;> omega
    rw [hc] at hg
    obtain ⟨V, hV⟩ := choose_lt (n := len) (α := α) (p := fun i z => good z ∧ (f z).length = n ∧ ∀ j, j < n → w.cell? ((a.add (i * n)).add j) = (f z)[j]?) (fun i hi => by
      obtain ⟨cs', h1, h2⟩ := hg i (by omega)
      obtain ⟨_, hlen, hcell⟩ := World.cells?_some h1
      obtain ⟨z, rfl, hz⟩ := hx _ _ _ h2
      exact ⟨z, hz, hlen, hcell⟩)
    refine ⟨some a, cap, (List.range len).map V, by simp, by simpa using hl, hm, ?_, ?_⟩
    · intro h0
      have hlen0 : 0 < len := by simpa using h0
      obtain ⟨_, hl0, hc0⟩ := hV 0 hlen0
      have hc00 := hc0 0 hn
      obtain ⟨b, o, sp⟩ := a
      have hsome : ((f (V 0))[0]?).isSome = true := by simp [hl0, hn]
      rw [← hc00] at hsome
      have hsp : sp = none := by
        cases sp with
        | none => rfl
        | some x =>
          simp [Addr.add, World.cell?] at hsome
          split at hsome <;> simp at hsome
      subst hsp
      have hb : b < w.heap.size := by
        simp [Addr.add, World.cell?] at hsome
        split at hsome
        · rename_i h
          exact (Array.getElem?_eq_some_iff.1 h).1
        · simp at hsome
      refine ⟨b, o, rfl, hb, fun i hi j hj => ?_⟩
      have hi' : i < len := by simpa using hi
      have := (hV i hi').2.2 j hj
      rw [Addr.add_lit, Addr.add_lit] at this
      rw [this]
      simp
    · intro z hz
      obtain ⟨i, hi, rfl⟩ := List.mem_map.1 hz
      exact (hV i (by simpa using hi)).1
theorem trodArgSlice {P : Program} {α : Type} [Inhabited α] {r : Reach} {b0 : Nat} {t e : TypeId} {n : Nat} (f : α → List Value) (good : α → Prop) (ht : P.underlying t = some (.slice e)) (hc : P.cellsOf e = n) (hn : 0 < n)
    (hx : ∀ (m : Nat) (cs : List Value) (x : DataW H × List MemPlace), DataW.trod enc P w base spare held m e cs = some x → ∃ z, cs = f z ∧ good z) {v : Value} {d : DataW H} {p : List MemPlace}
    (hv : Value.okWide P w r b0 t v) (h : DataW.Trod enc P w base spare held t v d p) :
    ∃ (A : Option Addr) (cap : Nat) (zs : List α), v = .slice A zs.length cap ∧ zs.length ≤ cap ∧ cap ≤ maxLen ∧ SlAtN w A n (zs.map f) ∧ ∀ z ∈ zs, good z := by
  obtain ⟨a0, len, cap, rfl⟩ := okWide_slice ht hv
  obtain ⟨fuel, hf⟩ := h
  obtain ⟨A, cap', zs, hcs, h1, h2, h3, h4⟩ := trodSlice f good ht hc hn hx hf
  simp [Value.cells] at hcs
  obtain ⟨rfl, rfl, rfl⟩ := hcs
  exact ⟨_, _, zs, rfl, h1, h2, h3, h4⟩
theorem trodEOp (h : DataW.trod enc Try.prog w base spare held fuel 29 cs = some x) : ∃ z : EOp, cs = z.cells ∧ z.good := by
  obtain ⟨xs, n, _, _, hcl, hlen, hg⟩ := DataW.trod_struct Try.underlying29 h
  have hl : cs.length = 3 := hcl.trans (by kernel_rfl)
  have z0 : Try.prog.cellsOf 3 = 1 := by kernel_rfl
  have z1 : Try.prog.cellsOf 3 = 1 := by kernel_rfl
  match cs, hl with
  | [c0, c1, c2], _ =>
    have g0 : DataW.trod enc Try.prog w base spare held n 3 (([c0, c1, c2].drop 0).take (Try.prog.cellsOf 3)) = xs[0]? := hg 0 _ rfl
    rw [z0, List.getElem?_eq_getElem (by rw [hlen]; decide)] at g0
    have g1 : DataW.trod enc Try.prog w base spare held n 3 (([c0, c1, c2].drop 1).take (Try.prog.cellsOf 3)) = xs[1]? := hg 1 _ rfl
    rw [z0, List.getElem?_eq_getElem (by rw [hlen]; decide)] at g1
    have g2 : DataW.trod enc Try.prog w base spare held n 3 (([c0, c1, c2].drop 2).take (Try.prog.cellsOf 3)) = xs[2]? := hg 2 _ rfl
    rw [z1, List.getElem?_eq_getElem (by rw [hlen]; decide)] at g2
    obtain ⟨a0, e0, _, k0⟩ := DataW.trod_int Try.underlying3 g0
    obtain ⟨a1, e1, _, k1⟩ := DataW.trod_int Try.underlying3 g1
    obtain ⟨a2, e2, _, k2⟩ := DataW.trod_int Try.underlying3 g2
    simp at e0 e1 e2
    subst e0
    subst e1
    subst e2
    exact ⟨⟨a0, a1, a2⟩, rfl, k0, k1, k2⟩
end
theorem EOp.len (z : EOp) : z.cells.length = 3 := rfl
theorem EOp.facts {w : World} {A : Option Addr} {zs : List EOp} (h : SlAtN w A 3 (zs.map EOp.cells)) {k : Nat} (hk : k < zs.length) (z : EOp) (hz : zs[k] = z) : ∃ b o, A = some ⟨b, o, none⟩ ∧ b < w.heap.size ∧ w.rangeAt b (o + k * 3) z.cells := by
  obtain ⟨b, o, hA, hb, hc⟩ := h (by simpa using Nat.lt_of_le_of_lt (Nat.zero_le _) hk)
  have hc := hc k (by simpa using hk)
  simp only [List.getElem_map, hz] at hc
  refine ⟨b, o, hA, hb, fun j v hj => ?_⟩
  have hlt : j < 3 := by have := (List.getElem?_eq_some_iff.1 hj).1; rwa [EOp.len] at this
  rw [hc j hlt, hj]
theorem wf_i64 {x : Int} (h : (Lit.int .i64 x).wf = true) : -9223372036854775808 ≤ x ∧ x ≤ 9223372036854775807 := by
  simpa [Lit.wf, IntKind.min, IntKind.max, IntKind.signed, IntKind.bits] using h
theorem rg_only {S : Nat → Prop} {w w' : World} {b o : Nat} {cs : List Value} (h : w.rangeAt b o cs) (hb : b < w.heap.size) (x : Only S w w') (hn : ¬ S b) : w'.rangeAt b o cs :=
  fun j v hj => (x.cells b _ hb hn).trans (h j v hj)
theorem rg_ext {w w' : World} {b o : Nat} {cs : List Value} (h : w.rangeAt b o cs) (hb : b < w.heap.size) (x : Ext w w') : w'.rangeAt b o cs :=
  rg_only h hb (Only.ofExt (S := fun _ => False) x) id
/-- The most that is free together, and what fits. -/
theorem foldl_max (n : Int) : ∀ (l : List Pr) (m : Int), n ≤ l.foldl (fun m p => max m p.len) m ↔ n ≤ m ∨ ∃ x ∈ l, n ≤ x.len
  | [], m => by simp
  | p :: l, m => by
    rw [List.foldl_cons, foldl_max n l]
    constructor
    · rintro (h | ⟨x, hx, h⟩)
      · rcases (show n ≤ m ∨ n ≤ p.len by omega) with h | h
        · exact .inl h
        · exact .inr ⟨p, List.mem_cons_self, h⟩
      · exact .inr ⟨x, List.mem_cons_of_mem _ hx, h⟩
    · rintro (h | ⟨x, hx, h⟩)
      · left; omega
      · rcases List.mem_cons.1 hx with rfl | hx
        · left; omega
        · exact .inr ⟨x, hx, h⟩
theorem most_fits {n : Int} (hn : 1 ≤ n) (l : List Pr) : n ≤ mostP l ↔ l.findIdx? (fits n) ≠ none := by
  unfold mostP
  rw [foldl_max, Ne, List.findIdx?_eq_none_iff]
  constructor
  · rintro (h | ⟨x, hx, h⟩)
    · omega
    · intro c
      have := c x hx
      unfold fits at this
      exact absurd h (of_decide_eq_false this)
  · intro c
    obtain ⟨x, hx⟩ := Classical.not_forall.1 c
    obtain ⟨hx, h⟩ := Classical.not_imp.1 hx
    refine .inr ⟨x, hx, ?_⟩
    have : fits n x = true := by simpa using h
    exact of_decide_eq_true this

end Go.Proofs.Ytkjakaoimbmcjaa
