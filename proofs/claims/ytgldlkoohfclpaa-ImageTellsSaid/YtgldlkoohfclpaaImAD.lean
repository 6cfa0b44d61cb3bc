/- Layer 17: where all lies. -/
import Derived.Test.YtgldlkoohfclpaaImM
namespace Go.Proofs.Ytgldlkoohfclpaa
set_option linter.unusedSimpArgs false
set_option linter.unusedVariables false
open Go.RowKit

theorem get_snoc {α : Type} {l : List α} {z : α} {i : Nat} (h : i < l.length) : (l ++ [z])[i]? = l[i]? := List.getElem?_append_left h
/-- Where the i-th one lies. -/
theorem layK_at {hp : Int} (h1 : 1 ≤ hp) (h2 : hp ≤ 64) : ∀ cs : List Cmp, (∀ c ∈ cs, CmR c) → ∀ (i : Nat) (c : Cmp), cs[i]? = some c →
    (layK hp cs).C[i]? = some ⟨(layK hp (cs.take i)).pg * 256, (layK hp (cs.take i)).pg * 256 + c.bl.length⟩ ∧
    (layK hp cs).D[i]? = some ⟨((layK hp (cs.take i)).pg + lnPg c.bl.length) * 256, ((layK hp (cs.take i)).pg + lnPg c.bl.length + c.data) * 256⟩ ∧
    (layK hp cs).H[i]? = some ⟨((layK hp (cs.take i)).pg + lnPg c.bl.length + c.data) * 256, ((layK hp (cs.take i)).pg + lnPg c.bl.length + c.data + hp) * 256⟩ ∧
    (layK hp (cs.take (i + 1))).pg = (layK hp (cs.take i)).pg + lnPg c.bl.length + c.data + hp := by
  intro cs
  refine List.reverseRecOn' (p := fun cs => (∀ c ∈ cs, CmR c) → ∀ (i : Nat) (c : Cmp), cs[i]? = some c → (layK hp cs).C[i]? = some ⟨(layK hp (cs.take i)).pg * 256, (layK hp (cs.take i)).pg * 256 + c.bl.length⟩ ∧
    (layK hp cs).D[i]? = some ⟨((layK hp (cs.take i)).pg + lnPg c.bl.length) * 256, ((layK hp (cs.take i)).pg + lnPg c.bl.length + c.data) * 256⟩ ∧
    (layK hp cs).H[i]? = some ⟨((layK hp (cs.take i)).pg + lnPg c.bl.length + c.data) * 256, ((layK hp (cs.take i)).pg + lnPg c.bl.length + c.data + hp) * 256⟩ ∧
    (layK hp (cs.take (i + 1))).pg = (layK hp (cs.take i)).pg + lnPg c.bl.length + c.data + hp) cs ?_ ?_
  · intro _ i c hc
    cases hc
  · intro cs z ih hc i c hi
    have hl := layK_len h1 h2 cs (fun d hd => hc d (by simp [hd]))
    have hlt := (List.getElem?_eq_some_iff.1 hi).1
    rw [List.length_append, List.length_cons, List.length_nil] at hlt
    rw [layK_snoc]
    by_cases h : i < cs.length
    · rw [get_snoc h] at hi
      obtain ⟨a, b, d, e⟩ := ih (fun d hd => hc d (by simp [hd])) i c hi
      rw [List.take_append_of_le_length (by omega), List.take_append_of_le_length (by omega)]
      unfold stp
      rw [get_snoc (by omega), get_snoc (by omega), get_snoc (by omega)]
      exact ⟨a, b, d, e⟩
    · obtain rfl : i = cs.length := by omega
      rw [List.getElem?_append_right (Nat.le_refl _), Nat.sub_self] at hi
      obtain rfl : z = c := by simpa using hi
      rw [List.take_append_of_le_length (Nat.le_refl _), List.take_length, List.take_of_length_le (by simp), layK_snoc]
      unfold stp
      rw [List.getElem?_append_right (by omega), List.getElem?_append_right (by omega), List.getElem?_append_right (by omega), hl.1, hl.2.1, hl.2.2.1, Nat.sub_self]
      exact ⟨rfl, rfl, rfl, rfl⟩
theorem layK_mono {hp : Int} (h1 : 1 ≤ hp) (h2 : hp ≤ 64) {cs : List Cmp} (hc : ∀ c ∈ cs, CmR c) : ∀ {i j : Nat}, i ≤ j → j ≤ cs.length → (layK hp (cs.take i)).pg ≤ (layK hp (cs.take j)).pg := by
  intro i j hij
  induction hij with
  | refl => intro _; exact Int.le_refl _
  | step h ih =>
    rename_i m
    intro hj
    have h3 := (layK_at h1 h2 cs hc m cs[m] (List.getElem?_eq_getElem (by omega))).2.2.2
    have h4 := ih (by omega)
    obtain ⟨a, b, c, d⟩ := hc cs[m] (List.getElem_mem _)
    unfold lnPg at h3
    show _ ≤ (layK hp (cs.take (m + 1))).pg
    omega
theorem layS_at (t : LayS) (h : t.S = []) : ∀ (n j : Nat), j < n → (layS t n).S[j]? = some ((t.pg + j) * 256)
  | 0, j, hj => absurd hj (Nat.not_lt_zero _)
  | n + 1, j, hj => by
    have hl := layS_len t n
    rw [h] at hl
    simp only [layS, stpS]
    by_cases h1 : j < n
    · rw [get_snoc (by rw [hl.1]; simpa using h1)]
      exact layS_at t h n j h1
    · obtain rfl : j = n := by omega
      rw [List.getElem?_append_right (by rw [hl.1]; simp), hl.1, hl.2.1]
      simp

end Go.Proofs.Ytgldlkoohfclpaa
