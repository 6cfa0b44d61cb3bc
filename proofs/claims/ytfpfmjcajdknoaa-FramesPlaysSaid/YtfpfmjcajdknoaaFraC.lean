/- Layer 19: frames: the stack. -/
import Derived.Test.YtfpfmjcajdknoaaFraB
namespace Go.Proofs.Ytfpfmjcajdknoaa
set_option linter.unusedSimpArgs false
set_option linter.unusedVariables false
open Go.RowKit

/-- A stack at block q: its rows are the slice v, of the stack's own. -/
def Stk (w : World) (q base : Nat) (v : Value) (n : Nat) (L : Nat → Cap) : Prop :=
  q < w.heap.size ∧ w.cell? ⟨q, 0, none⟩ = some v ∧ w.frozen? ⟨q, 0, none⟩ = false ∧ w.ownsRow base 54 30 v n (capsList (n * 5) L) ∧ base ≤ q ∧ ∀ g, v.ownBlock = some g → ¬ g = q
theorem ownsRow_ext {w w' : World} {base : Nat} {e : TypeId} {size n : Nat} {v : Value} {xs : List Value} (h : w.ownsRow base e size v n xs) (x : Ext w w') : w'.ownsRow base e size v n xs := by
  refine ⟨h.1, ?_⟩
  rcases h.2 with h0 | ⟨g, cap, cur, hv, hb, hg, r⟩
  · exact .inl h0
  · exact .inr ⟨g, cap, cur, hv, hb, by rw [x.block g (Array.getElem?_eq_some_iff.1 hg).1]; exact hg, r⟩
theorem Stk.ext {w w' : World} {q base : Nat} {v : Value} {n : Nat} {L : Nat → Cap} (h : Stk w q base v n L) (x : Ext w w') : Stk w' q base v n L :=
  ⟨Nat.lt_of_lt_of_le h.1 x.size, by rw [x.cells q _ h.1]; exact h.2.1, by rw [x.frozens q _ h.1]; exact h.2.2.1, ownsRow_ext h.2.2.2.1 x, h.2.2.2.2⟩
theorem Stk.slice {w : World} {q base : Nat} {v : Value} {n : Nat} {L : Nat → Cap} (h : Stk w q base v n L) : ∃ A cap, v = .slice A n cap ∧ (A = none → n = 0 ∧ cap = 0) ∧ (∀ a, A = some a → ∃ g, a = ⟨g, 0, none⟩ ∧ base ≤ g ∧ Row w g 0 (capsList (n * 5) L)) := by
  rcases h.2.2.2.1.2 with ⟨rfl, rfl⟩ | ⟨g, cap, cur, rfl, hb, hg, _, _, hs, ht⟩
  · exact ⟨none, 0, rfl, fun _ => ⟨rfl, rfl⟩, (fun a h => by cases h)⟩
  · refine ⟨some ⟨g, 0, none⟩, cap, rfl, (fun h => by cases h), fun a ha => ⟨g, by simpa using ha.symm, hb, ⟨(Array.getElem?_eq_some_iff.1 hg).1, fun j u hj => ?_, fun j hj => ?_⟩⟩⟩
    · rw [Nat.zero_add, cell_of_row w g _ cur 54 (0, 0) hg]
      have hlt := (List.getElem?_eq_some_iff.1 hj).1
      rw [capsList_length] at hlt
      rw [← ht, List.getElem?_take, if_pos (by omega)] at hj
      simpa using hj
    · rw [Nat.zero_add]
      simp [World.frozen?, hg]
set_option maxHeartbeats 400000 in
theorem new_ (w : World) (L : Nat → Cap) : Calls Try.prog 8 #[] w fun e w' => ∃ b, e = .returned (.pointer (some ⟨b, 0, none⟩)) ∧ w.heap.size ≤ b ∧ Ext w w' ∧ Stk w' b w.heap.size (.slice none 0 0) 0 L := by
  go_enter Try.func8, Try.ntmps8
  go_wp2
  go_ret
  exact ⟨w.heap.size, rfl, Nat.le_refl _, (by repeat (first | (with_reducible exact Ext.refl _) | (with_reducible refine Ext.undrew ?_) | (with_reducible refine Ext.grow ?_ _) | (with_reducible refine Ext.drew ?_) | (with_reducible refine Ext.drewN ?_ _) | (with_reducible refine Ext.alloc ?_ _) | (with_reducible assumption) | ((with_reducible refine Ext.setCell ?_ ?_ _); rotate_left; (first | exact Nat.le_refl _ | ((try dsimp only); (try simp only [World.size_alloc, grow_size, World.size_setCell]); omega))))), by simp, by simp [go_sem], by simp [go_sem], ⟨by simp [capsList], .inl ⟨rfl, rfl⟩⟩, Nat.le_refl _, (fun g h => by cases h)⟩
set_option maxHeartbeats 400000 in
theorem many_ (q base : Nat) (v : Value) (n : Nat) (L : Nat → Cap) (w : World) (h : Stk w q base v n L) : Calls Try.prog 17 #[.pointer (some ⟨q, 0, none⟩)] w fun e w' => e = .returned (.int .i64 n) ∧ w' = w := by
  obtain ⟨A, cap, rfl, _, _⟩ := h.slice
  have hc := h.2.1
  have hq := h.1
  clear h
  go_enter Try.func17, Try.ntmps17
  go_wp2
  go_ret
  exact ⟨rfl, rfl⟩
end Go.Proofs.Ytfpfmjcajdknoaa
