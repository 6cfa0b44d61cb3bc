/- Layer 13: two rows side by side. -/
import Derived.Test.YtlbemgkdpagoiaaQuaO
import Derived.Test.YtlbemgkdpagoiaaEpo
namespace Go.Proofs.Ytlbemgkdpagoiaa
set_option linter.unusedSimpArgs false
set_option linter.unusedVariables false
open Go.RowKit

/-- A row of its own beside the one that is held. -/
def Apt (q : Nat) (v va : Value) : Prop := ∀ g, va.ownBlock = some g → ¬ g = q ∧ ¬ v.ownBlock = some g
theorem Apt.nil (q : Nat) (v : Value) : Apt q v (.slice none 0 0) := fun g h => by cases h
theorem Apt.put {q base2 s n : Nat} {e : TypeId} {v v' va : Value} {xs : List Value} {w : World} (h : Apt q v va) (ho : ownsAt w base2 e s va n xs) (hv : ∀ g, v'.ownBlock = some g → v.ownBlock = some g ∨ w.heap.size ≤ g) : Apt q v' va := fun g hg => ⟨(h g hg).1, fun e => by
  rcases hv g e with e | e
  · exact (h g hg).2 e
  · have := (ho.lt g hg).2; omega⟩
theorem Apt.not {q : Nat} {v va : Value} (h : Apt q v va) : ∀ g, va.ownBlock = some g → ¬ tch q v g := fun g hg e => by
  rcases e with e | e
  · exact (h g hg).1 e
  · exact (h g hg).2 e
theorem Apt.app {w : World} {q base : Nat} {full b : Int} {v va v' : Value} {l : List Hd} (h : Apt q v va) (hq : Qs w q base full b v l) (hat : v'.ownBlock = va.ownBlock ∨ ∃ g, v'.ownBlock = some g ∧ w.heap.size ≤ g) : Apt q v v' := fun g hg => by
  rcases hat with e | ⟨g', e, hl⟩
  · exact h g (e ▸ hg)
  · rw [hg] at e
    obtain rfl : g = g' := by simpa using e
    refine ⟨by have := hq.1; omega, fun e2 => by have := (hq.2.2.2.1.lt g e2).2; omega⟩
theorem Qs.byApp {w w' : World} {q base : Nat} {full b : Int} {v va : Value} {l : List Hd} (hq : Qs w q base full b v l) (h : Apt q v va) (hg : w.grownBy w' va.ownBlock) : Qs w' q base full b v l :=
  hq.only (grownOnly (S := fun i => va.ownBlock = some i) hg fun g e => e) (fun e => (h q e).1 rfl) (fun g hg e => (h g e).2 hg)
theorem Ext.byApp {w0 w w' : World} {va : Value} {base2 s n : Nat} {e : TypeId} {xs : List Value} (hE : Ext w0 w) (ho : ownsAt w base2 e s va n xs) (hb : w0.heap.size ≤ base2) (hg : w.grownBy w' va.ownBlock) : Ext w0 w' :=
  Ext.only hE (grownOnly (S := fun i => va.ownBlock = some i) hg fun g e => e) (fun i hi => Nat.le_trans hb (ho.lt i hi).1)
theorem tw_all {α : Type} (p : α → Bool) : ∀ l : List α, (∀ x ∈ l, p x = true) → l.takeWhile p = l
  | [], _ => rfl
  | x :: l, h => by rw [List.takeWhile, h x List.mem_cons_self]; simp only [tw_all p l (fun y hy => h y (List.mem_cons_of_mem _ hy))]
theorem due_all (l : List Hd) : l.takeWhile (dueB 1125899906842624) = l := tw_all _ l fun x _ => by
  have := whenT_bd x.time
  unfold dueB
  exact decide_eq_true (by omega)
theorem QOp.held {w : World} {b o : Nat} {z : QOp} (h : w.rangeAt b o z.cells) : w.rangeAt b (o + 1) [.int .i64 z.h.at_, .int .i64 z.h.n, .int .i64 z.h.time] := fun j v hj => by
  have hlt := (List.getElem?_eq_some_iff.1 hj).1
  have := h (j + 1) v (by
    match j, hlt with
    | 0, _ => exact hj
    | 1, _ => exact hj
    | 2, _ => exact hj)
  rwa [show o + (j + 1) = o + 1 + j by omega] at this

end Go.Proofs.Ytlbemgkdpagoiaa
