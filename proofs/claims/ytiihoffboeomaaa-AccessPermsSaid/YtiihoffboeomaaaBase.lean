import Derived.WalkKit
import Derived.WalkSpells
import Derived.WalkLawsBesides
import Derived.ProofKit
import Derived.OpenShut
import Derived.Deep.QuietTactic
import Derived.BigQuiet
namespace Go.Proofs.Ytiihoffboeomaaa
open Go.RowKit

theorem hid {p : Prop} (h : p) : Hid p := h

theorem upto_snoc {k : Nat} {p : Nat → Prop} (h : ∀ j, j < k → p j) (hk : p k) : ∀ j, j < k + 1 → p j := fun j hj =>
  if e : j = k then e ▸ hk else h j (by omega)
theorem all_range_false {n k : Nat} {f : Nat → Bool} (hk : k < n) (h : f k = false) : (List.range n).all f = false := by
  rw [List.all_eq_false]; exact ⟨k, by simpa using hk, by simp [h]⟩
theorem all_range_true {n : Nat} {f : Nat → Bool} (h : ∀ k, k < n → f k = true) : (List.range n).all f = true := by
  rw [List.all_eq_true]; intro k hk; exact h k (by simpa using hk)

/-- Nothing that was there has turned; there may be new blocks. -/
def Ext (w w' : World) : Prop := Below w.heap.size w w'

theorem Ext.refl (w : World) : Ext w w := Below.refl _ _
theorem Ext.trans {a b c : World} (h : Ext a b) (k : Ext b c) : Ext a c := Below.trans h (Below.mono k h.size)
theorem Ext.drew {a w : World} (h : Ext a w) : Ext a w.drew := Below.drew h
theorem Ext.drewN {a w : World} (h : Ext a w) (n : Nat) : Ext a (w.drewN n) := ⟨h.os, h.tape, h.output, h.size, h.block⟩
theorem Ext.alloc {a w : World} (h : Ext a w) (o : Obj) : Ext a (w.alloc o) := Below.alloc h h.size o
theorem Ext.size {a w : World} (h : Ext a w) : a.heap.size ≤ w.heap.size := Below.size h
theorem Ext.setCell {a w : World} (h : Ext a w) {p : Addr} (hp : a.heap.size ≤ p.block) (u : Value) : Ext a (w.setCell p u) := Below.setCell h hp u
theorem Ext.cells {a w : World} (h : Ext a w) : ∀ b o, b < a.heap.size → w.cell? ⟨b, o, none⟩ = a.cell? ⟨b, o, none⟩ :=
  fun _ _ hb => Below.cell (p := ⟨_, _, none⟩) h hb
theorem Ext.frozens {a w : World} (h : Ext a w) : ∀ b o, b < a.heap.size → w.frozen? ⟨b, o, none⟩ = a.frozen? ⟨b, o, none⟩ :=
  fun _ _ hb => Below.frozen (p := ⟨_, _, none⟩) h hb

/-- What a call adds to the world: new blocks, and draws. -/
structure Delta where
  objs : Array Obj
  drawn : Nat

instance : Nonempty Delta := ⟨⟨#[], 0⟩⟩
/-- The world behind a call that turned nothing. -/
def grow (w : World) (d : Delta) : World := { w with heap := w.heap ++ d.objs, drawn := d.drawn }

theorem grow_size (w : World) (d : Delta) : (grow w d).heap.size = w.heap.size + d.objs.size := by simp [grow]
theorem grow_heap (w : World) (d : Delta) (k : Nat) : (grow w d).heap[k]? = if k < w.heap.size then w.heap[k]? else d.objs[k - w.heap.size]? := by
  simp only [grow]
  split
  · rename_i h; rw [Array.getElem?_append_left h]
  · rename_i h; rw [Array.getElem?_append_right (by omega)]
/-- A cell of what the call itself made. -/
def Delta.cell? (d : Delta) (b o : Nat) : Option Value := match d.objs[b]? with | some (.cells c _ _) => c[o]? | _ => none
def Delta.frozen? (d : Delta) (b o : Nat) : Bool := match d.objs[b]? with | some (.cells _ _ (lo, hi)) => lo ≤ o && o < hi | _ => false
theorem grow_cell (w : World) (d : Delta) (b o : Nat) : (grow w d).cell? ⟨b, o, none⟩ = if b < w.heap.size then w.cell? ⟨b, o, none⟩ else d.cell? (b - w.heap.size) o := by
  by_cases h : b < w.heap.size <;> simp [World.cell?, grow_heap, Delta.cell?, h] <;> rfl
theorem grow_frozen (w : World) (d : Delta) (b o : Nat) : (grow w d).frozen? ⟨b, o, none⟩ = if b < w.heap.size then w.frozen? ⟨b, o, none⟩ else d.frozen? (b - w.heap.size) o := by
  by_cases h : b < w.heap.size <;> simp [World.frozen?, grow_heap, Delta.frozen?, h] <;> rfl
theorem Ext.grown {w w' : World} (h : Ext w w') : ∃ d, w' = grow w d := by
  refine ⟨⟨w'.heap.extract w.heap.size w'.heap.size, w'.drawn⟩, ?_⟩
  obtain ⟨heap, tape, drawn, os, output⟩ := w
  obtain ⟨heap', tape', drawn', os', output'⟩ := w'
  obtain ⟨h1, h2, h3, h4, h5⟩ := h
  simp only at h1 h2 h3 h4 h5
  subst h1 h2 h3
  simp only [grow, World.mk.injEq, and_true]
  apply Array.ext
  · simp; omega
  · intro i hi hi'
    have : heap'[i]? = (heap ++ heap'.extract heap.size heap'.size)[i]? := by
      by_cases hlt : i < heap.size
      · rw [h5 i hlt, Array.getElem?_append_left hlt]
      · rw [Array.getElem?_append_right (by omega), Array.getElem?_extract]
        have hi2 : i < heap'.size := hi
        rw [if_pos (by omega)]
        congr 1
        omega
    rw [Array.getElem?_eq_getElem hi, Array.getElem?_eq_getElem hi'] at this
    exact Option.some.inj this
theorem Ext.grow {a w : World} (h : Ext a w) (d : Delta) : Ext a (grow w d) :=
  Ext.trans h ⟨rfl, rfl, rfl, by rw [grow_size]; omega, fun k hk => by rw [grow_heap, if_pos hk]⟩
theorem grow_grow (w : World) (d d' : Delta) : Go.Proofs.Ytiihoffboeomaaa.grow (Go.Proofs.Ytiihoffboeomaaa.grow w d) d' = Go.Proofs.Ytiihoffboeomaaa.grow w ⟨d.objs ++ d'.objs, d'.drawn⟩ := by
  simp [Go.Proofs.Ytiihoffboeomaaa.grow, Array.append_assoc]
theorem Ext.ofGrow {w w' : World} (h : ∃ d, w' = Go.Proofs.Ytiihoffboeomaaa.grow w d) : Ext w w' := by
  obtain ⟨d, rfl⟩ := h
  exact Ext.grow (Ext.refl w) d
theorem grow_drew (w : World) : ∃ d, { w with drawn := w.drawn + 1 } = Go.Proofs.Ytiihoffboeomaaa.grow w d := ⟨⟨#[], w.drawn + 1⟩, by simp [Go.Proofs.Ytiihoffboeomaaa.grow]⟩

/-- A contract, met in a region whose order is drawn: what it leaves is the region's world, grown. -/
theorem growOf {P : Program} {f : FuncId} {args : Array Value} {w : World} {d : Delta} {v : Value}
    (h : Calls P f args (Go.Proofs.Ytiihoffboeomaaa.grow w d) fun e w' => e = .returned v ∧ Ext (Go.Proofs.Ytiihoffboeomaaa.grow w d) w') :
    Calls P f args (Go.Proofs.Ytiihoffboeomaaa.grow w d) fun e w'' => e = .returned v ∧ ∃ d', w'' = Go.Proofs.Ytiihoffboeomaaa.grow w d' :=
  h.mono fun _ _ ⟨he, hx⟩ => ⟨he, by obtain ⟨d', rfl⟩ := hx.grown; exact ⟨_, grow_grow _ _ _⟩⟩
theorem growOfSame {P : Program} {f : FuncId} {args : Array Value} {w : World} {d : Delta} {v : Value}
    (h : Calls P f args (Go.Proofs.Ytiihoffboeomaaa.grow w d) fun e w' => e = .returned v ∧ Go.Proofs.Ytiihoffboeomaaa.grow w d = w') :
    Calls P f args (Go.Proofs.Ytiihoffboeomaaa.grow w d) fun e w'' => e = .returned v ∧ ∃ d', w'' = Go.Proofs.Ytiihoffboeomaaa.grow w d' :=
  h.mono fun _ _ ⟨he, hx⟩ => ⟨he, d, hx.symm⟩

/-- A region that draws its order, whose operations read and whose calls turn nothing: one walk, in the order of the text. -/
theorem wp_region_grow {P : Program} {id : Nat} {Q : Exit → Act → World → Prop} {a : Act} {w : World} {l : List Oper} (hm : P.follows .mixedOrders = true) (hB : Region.lexB .any l.toArray = true)
    (h : wpQuiet P l.toArray (fun w' => ∃ d, w' = Go.Proofs.Ytiihoffboeomaaa.grow w d) (fun a' => ∀ w', (∃ d, w' = Go.Proofs.Ytiihoffboeomaaa.grow w d) → Q .normal a' w') l a) : (Code.region id l.toArray true).wp P Q a w :=
  wp_region_quiet (C := fun w' => ∃ d, w' = Go.Proofs.Ytiihoffboeomaaa.grow w d) hm hB (grow_drew w) (by simpa using h)

/-- The slice's cells, from its address on. -/
def SlAt (w : World) (A : Option Addr) (xs : List Value) : Prop :=
  0 < xs.length → ∃ b o, A = some ⟨b, o, none⟩ ∧ b < w.heap.size ∧ ∀ j (h : j < xs.length), w.cell? ⟨b, o + j, none⟩ = some xs[j]

theorem SlAt.ext {w w' : World} {A : Option Addr} {xs : List Value} (h : SlAt w A xs) (e : Ext w w') : SlAt w' A xs := fun h0 => by
  obtain ⟨b, o, hA, hb, hc⟩ := h h0
  exact ⟨b, o, hA, Nat.lt_of_lt_of_le hb e.size, fun j hj => by rw [e.cells b _ hb]; exact hc j hj⟩

end Go.Proofs.Ytiihoffboeomaaa
