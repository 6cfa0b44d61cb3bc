/- Words on memory that turns. -/
import Derived.Test.YtgpeabbbeidhpaaG
import Derived.Deep.MidRow
namespace Go.Proofs.Ytgpeabbbeidhpaa
set_option linter.unusedSimpArgs false
set_option linter.unusedVariables false
open Go.RowKit


/-- All is as it was but for some blocks. -/
structure Only (S : Nat → Prop) (w w' : World) : Prop where
  os : w'.os = w.os
  tape : w'.tape = w.tape
  output : w'.output = w.output
  size : w.heap.size ≤ w'.heap.size
  block : ∀ k, k < w.heap.size → ¬ S k → w'.heap[k]? = w.heap[k]?
theorem Only.refl (S : Nat → Prop) (w : World) : Only S w w := ⟨rfl, rfl, rfl, Nat.le_refl _, fun _ _ _ => rfl⟩
theorem Only.ofExt {S : Nat → Prop} {w w' : World} (h : Ext w w') : Only S w w' := ⟨h.os, h.tape, h.output, h.size, fun k hk _ => h.block k hk⟩
theorem Only.ext {S : Nat → Prop} {w w' : World} (h : Only S w w') (hS : ∀ k, S k → w.heap.size ≤ k) : Ext w w' :=
  ⟨h.os, h.tape, h.output, h.size, fun k hk => h.block k hk (fun hs => by have := hS k hs; omega)⟩
theorem Only.trans {S T : Nat → Prop} {a b c : World} (h : Only S a b) (k : Only T b c) (hT : ∀ i, T i → S i ∨ a.heap.size ≤ i) : Only S a c :=
  ⟨k.os.trans h.os, k.tape.trans h.tape, k.output.trans h.output, Nat.le_trans h.size k.size, fun i hi hs => by
    rw [k.block i (Nat.lt_of_lt_of_le hi h.size) (fun ht => by rcases hT i ht with h1 | h1; exact hs h1; omega)]
    exact h.block i hi hs⟩
theorem Only.trans' {S : Nat → Prop} {a b c : World} (h : Only S a b) (k : Only S b c) : Only S a c := h.trans k fun _ => .inl
theorem Only.transExt {S : Nat → Prop} {a b c : World} (h : Only S a b) (k : Ext b c) : Only S a c := h.trans' (.ofExt k)
/-- Behind new blocks a call that turns only such. -/
theorem Ext.only {S : Nat → Prop} {a b c : World} (h : Ext a b) (k : Only S b c) (hS : ∀ i, S i → a.heap.size ≤ i) : Ext a c :=
  ((Only.ofExt (S := S) h).trans' k).ext hS
theorem Only.cells {S : Nat → Prop} {w w' : World} (h : Only S w w') : ∀ b o, b < w.heap.size → ¬ S b → w'.cell? ⟨b, o, none⟩ = w.cell? ⟨b, o, none⟩ := fun b o hb hs => by
  simp only [World.cell?, h.block b hb hs]
theorem Only.frozens {S : Nat → Prop} {w w' : World} (h : Only S w w') : ∀ b o, b < w.heap.size → ¬ S b → w'.frozen? ⟨b, o, none⟩ = w.frozen? ⟨b, o, none⟩ := fun b o hb hs => by
  simp only [World.frozen?, h.block b hb hs]

theorem Only.setCell {S : Nat → Prop} {a w : World} (h : Only S a w) {b o : Nat} (hb : S b ∨ a.heap.size ≤ b) (u : Value) : Only S a (w.setCell ⟨b, o, none⟩ u) :=
  ⟨h.os, h.tape, h.output, by rw [World.size_setCell]; exact h.size, fun k hk hs => by
    rw [← h.block k hk hs]
    unfold World.setCell
    simp only [Array.getElem?_modify]
    rw [if_neg]
    intro e
    subst e
    rcases hb with hb | hb
    · exact hs hb
    · omega⟩
theorem Only.drew {S : Nat → Prop} {a w : World} (h : Only S a w) : Only S a w.drew := ⟨h.os, h.tape, h.output, h.size, h.block⟩
theorem Only.alloc {S : Nat → Prop} {a w : World} (h : Only S a w) (o : Obj) : Only S a (w.alloc o) := h.transExt (Ext.alloc (Ext.refl w) o)
theorem Only.grow {S : Nat → Prop} {a w : World} (h : Only S a w) (d : Delta) : Only S a (Go.Proofs.Ytgpeabbbeidhpaa.grow w d) := h.transExt (Ext.grow (Ext.refl w) d)
theorem Only.setCells {S : Nat → Prop} {a : World} {b : Nat} (hb : S b ∨ a.heap.size ≤ b) : ∀ (vs : List Value) (o : Nat) {w : World}, Only S a w → Only S a (w.setCells b o vs)
  | [], _, _, h => h
  | v :: r, o, w, h => by rw [World.setCells]; exact Only.setCells hb r (o + 1) (h.setCell hb v)

/-- Cells lie there, and may be written. -/
structure Row (w : World) (b o : Nat) (vs : List Value) : Prop where
  lt : b < w.heap.size
  at_ : ∀ j v, vs[j]? = some v → w.cell? ⟨b, o + j, none⟩ = some v
  free : ∀ j, j < vs.length → w.frozen? ⟨b, o + j, none⟩ = false
theorem Row.only {S : Nat → Prop} {w w' : World} {b o : Nat} {vs : List Value} (h : Row w b o vs) (x : Only S w w') (hs : ¬ S b) : Row w' b o vs :=
  ⟨Nat.lt_of_lt_of_le h.lt x.size, fun j v hj => by rw [x.cells b _ h.lt hs]; exact h.at_ j v hj, fun j hj => by rw [x.frozens b _ h.lt hs]; exact h.free j hj⟩
theorem Row.ext {w w' : World} {b o : Nat} {vs : List Value} (h : Row w b o vs) (x : Ext w w') : Row w' b o vs :=
  h.only (Only.ofExt (S := fun _ => False) x) id
theorem Row.range {w : World} {b o : Nat} {vs : List Value} (h : Row w b o vs) : w.rangeAt b o vs := h.at_
theorem Row.there {w : World} {b o : Nat} {vs : List Value} (h : Row w b o vs) : w.there b o vs.length := fun j hj =>
  ⟨by rw [h.at_ j _ (List.getElem?_eq_getElem hj)]; rfl, h.free j hj⟩

theorem enterOf {P : Program} {f : FuncId} {fn : Func} (hf : P.funcs[f]? = some fn) (hname : (fn.name == "runtime.NumGoroutine") = false) (hc : fn.body.isSome = true) (args : Array Value) (w : World) :
    Sem.run P (callFunc f args) w = .ok (.enter f args) w := by
  have h1 : ¬ fn.name = "runtime.NumGoroutine" := by simpa using hname
  obtain ⟨c, hb⟩ := Option.isSome_iff_exists.1 hc
  simp [callFunc, hf, h1, hb, Sem.run]

/-- The world in which one block has turned. -/
def turn (w : World) (q : Nat) (o : Obj) : World := { w with heap := w.heap.setIfInBounds q o }
theorem turn_size (w : World) (q : Nat) (o : Obj) : (turn w q o).heap.size = w.heap.size := by simp [turn]
theorem turn_heap (w : World) (q : Nat) (o : Obj) (k : Nat) (h : ¬ k = q) : (turn w q o).heap[k]? = w.heap[k]? := by
  simp only [turn, Array.getElem?_setIfInBounds]
  rw [if_neg (fun e => h e.symm)]
theorem turn_cell (w : World) (q : Nat) (o : Obj) (b off : Nat) (h : ¬ b = q) : (turn w q o).cell? ⟨b, off, none⟩ = w.cell? ⟨b, off, none⟩ := by simp only [World.cell?, turn_heap w q o b h]
theorem turn_frozen (w : World) (q : Nat) (o : Obj) (b off : Nat) (h : ¬ b = q) : (turn w q o).frozen? ⟨b, off, none⟩ = w.frozen? ⟨b, off, none⟩ := by simp only [World.frozen?, turn_heap w q o b h]
theorem turn_setCell (w : World) (q : Nat) (x : Obj) (b o : Nat) (v : Value) (h : ¬ b = q) : (turn w q x).setCell ⟨b, o, none⟩ v = turn (w.setCell ⟨b, o, none⟩ v) q x := by
  simp only [World.setCell, turn, World.mk.injEq, and_true]
  apply Array.ext_getElem?
  intro i
  simp only [Array.getElem?_modify, Array.getElem?_setIfInBounds, Array.size_modify]
  by_cases e : b = i
  · subst e
    have : ¬ q = b := fun e => h e.symm
    simp [this]
  · simp [e]
theorem turn_cell_gt (w : World) (q : Nat) (o : Obj) (b off : Nat) (h : q < b) : (turn w q o).cell? ⟨b, off, none⟩ = w.cell? ⟨b, off, none⟩ := turn_cell w q o b off (by omega)
theorem turn_frozen_gt (w : World) (q : Nat) (o : Obj) (b off : Nat) (h : q < b) : (turn w q o).frozen? ⟨b, off, none⟩ = w.frozen? ⟨b, off, none⟩ := turn_frozen w q o b off (by omega)
theorem turn_setCell_gt (w : World) (q : Nat) (x : Obj) (b o : Nat) (v : Value) (h : q < b) : (turn w q x).setCell ⟨b, o, none⟩ v = turn (w.setCell ⟨b, o, none⟩ v) q x := turn_setCell w q x b o v (by omega)
attribute [go_sem] turn_size turn_cell turn_frozen turn_setCell turn_cell_gt turn_frozen_gt turn_setCell_gt
theorem Only.turned {w w' : World} {q : Nat} (h : Only (· = q) w w') : ∃ o d, w' = Go.Proofs.Ytgpeabbbeidhpaa.grow (turn w q o) d := by
  refine ⟨(w'.heap[q]?).getD default, ⟨w'.heap.extract w.heap.size w'.heap.size, w'.drawn⟩, ?_⟩
  obtain ⟨heap, tape, drawn, os, output⟩ := w
  obtain ⟨heap', tape', drawn', os', output'⟩ := w'
  obtain ⟨h1, h2, h3, h4, h5⟩ := h
  simp only at h1 h2 h3 h4 h5
  subst h1 h2 h3
  simp only [Go.Proofs.Ytgpeabbbeidhpaa.grow, turn, World.mk.injEq, and_true]
  apply Array.ext_getElem?
  intro i
  by_cases hi : i < heap.size
  · rw [Array.getElem?_append_left (by simpa using hi), Array.getElem?_setIfInBounds]
    by_cases e : q = i
    · subst e
      rw [if_pos rfl, if_pos hi, Array.getElem?_eq_getElem (by omega)]
      rfl
    · rw [if_neg e]
      exact h5 i hi (fun e' => e e'.symm)
  · rw [Array.getElem?_append_right (by simp; omega), Array.getElem?_extract]
    simp only [Array.size_setIfInBounds]
    by_cases hi2 : i < heap'.size
    · rw [if_pos (by omega)]
      congr 1
      omega
    · rw [if_neg (by omega), Array.getElem?_eq_none (by omega)]
theorem Ext.turn {a w : World} (h : Ext a w) {q : Nat} (hq : a.heap.size ≤ q) (o : Obj) : Ext a (Go.Proofs.Ytgpeabbbeidhpaa.turn w q o) :=
  ⟨h.os, h.tape, h.output, by rw [turn_size]; exact h.size, fun k hk => by rw [turn_heap _ _ _ _ (by omega)]; exact h.block k hk⟩
theorem Only.turn {S : Nat → Prop} {a w : World} (h : Only S a w) {q : Nat} (hq : S q ∨ a.heap.size ≤ q) (o : Obj) : Only S a (Go.Proofs.Ytgpeabbbeidhpaa.turn w q o) :=
  ⟨h.os, h.tape, h.output, by rw [turn_size]; exact h.size, fun k hk hs => by
    rw [turn_heap _ _ _ _ (fun e => by subst e; rcases hq with hq | hq; exact hs hq; omega)]
    exact h.block k hk hs⟩
/-- A block is as it was. -/
def Keep (q : Nat) (w w' : World) : Prop := Only (fun k => ¬ k = q) w w'
theorem Keep.refl (q : Nat) (w : World) : Keep q w w := Only.refl _ _
theorem Keep.drew {q : Nat} {a w : World} (h : Keep q a w) : Keep q a w.drew := Only.drew h
theorem Keep.alloc {q : Nat} {a w : World} (h : Keep q a w) (o : Obj) : Keep q a (w.alloc o) := Only.alloc h o
theorem Keep.grow {q : Nat} {a w : World} (h : Keep q a w) (d : Delta) : Keep q a (Go.Proofs.Ytgpeabbbeidhpaa.grow w d) := Only.grow h d
theorem Keep.setCell {q : Nat} {a w : World} (h : Keep q a w) {b o : Nat} (hb : ¬ b = q) (u : Value) : Keep q a (w.setCell ⟨b, o, none⟩ u) := Only.setCell h (.inl hb) u
theorem Keep.turn {q : Nat} {a w : World} (h : Keep q a w) {b : Nat} (hb : ¬ b = q) (o : Obj) : Keep q a (Go.Proofs.Ytgpeabbbeidhpaa.turn w b o) := Only.turn h (.inl hb) o
theorem Keep.ofExt {q : Nat} {a w : World} (h : Ext a w) : Keep q a w := Only.ofExt h
theorem Keep.trans {q : Nat} {a b c : World} (h : Keep q a b) (k : Keep q b c) : Keep q a c := Only.trans' h k
theorem Keep.setCells {q : Nat} {a w : World} (h : Keep q a w) {b : Nat} (hb : ¬ b = q) (vs : List Value) (o : Nat) : Keep q a (w.setCells b o vs) := Only.setCells (.inl hb) vs o h
theorem Row.keep {w w' : World} {b o : Nat} {vs : List Value} (h : Row w b o vs) (x : Keep b w w') : Row w' b o vs := h.only x (by simp)

end Go.Proofs.Ytgpeabbbeidhpaa
