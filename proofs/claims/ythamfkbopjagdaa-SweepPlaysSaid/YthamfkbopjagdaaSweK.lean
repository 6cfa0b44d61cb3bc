/- Layer 10: all that is told. -/
import Derived.Test.YthamfkbopjagdaaSweE
namespace Go.Proofs.Ythamfkbopjagdaa
set_option linter.unusedSimpArgs false
set_option linter.unusedVariables false
open Go.RowKit

section
variable (n mm : Nat) (P : Nat → Bool) (B : Nat → Int) (T D : Nat → Bool)
theorem cntR_add (lo a b : Nat) : cntR mm P B T lo (a + b) = cntR mm P B T lo a + cntR mm P B T (lo + a) b := by
  unfold cntR
  rw [List.range_add, List.filter_append, List.length_append, List.filter_map, List.length_map]
  congr 3
  funext j
  simp [Function.comp, Nat.add_assoc]
theorem cntR_congr {T T' : Nat → Bool} (lo k : Nat) (h : ∀ t, lo ≤ t → t < lo + k → T t = T' t) : cntR mm P B T lo k = cntR mm P B T' lo k := by
  unfold cntR
  congr 1
  refine List.filter_congr fun j hj => ?_
  have := List.mem_range.1 hj
  exact hitAt_congr (h _ (by omega) (by omega))
theorem cntR_none {T : Nat → Bool} (lo k : Nat) (h : ∀ t, lo ≤ t → t < lo + k → T t = false) : cntR mm P B T lo k = 0 := by
  unfold cntR
  rw [List.length_eq_zero_iff, List.filter_eq_nil_iff]
  intro j hj
  have := List.mem_range.1 hj
  intro e
  have := hitAt_tag e
  rw [h _ (by omega) (by omega)] at this
  cases this
/-- All the pages that are told, one behind the other. -/
theorem stS_told (hI : ∀ t, T t = true → D (t / 16) = true) (g : Nat) : ∀ k, (stS n mm P B (T, D, g) (whichN D k)).1 = swpR mm P B T 0 (16 * k) ∧ (stS n mm P B (T, D, g) (whichN D k)).2.2 = g + cntR mm P B T 0 (16 * k)
  | 0 => ⟨by
      show T = _
      exact (swpR_zero mm P B T 0).symm, rfl⟩
  | k + 1 => by
    obtain ⟨h1, h2⟩ := stS_told hI g k
    have e16 : 16 * (k + 1) = 16 * k + 16 := by omega
    cases hD : D k with
    | true =>
      rw [whichN_yes hD, stS_snoc]
      refine ⟨?_, ?_⟩
      · show swpR mm P B (stS n mm P B (T, D, g) (whichN D k)).1 (16 * k) (16 * k + 16) = _
        rw [h1, e16]
        funext t
        unfold swpR
        by_cases c1 : t < 16 * k
        · simp [c1, show ¬ 16 * k ≤ t by omega, show t < 16 * k + 16 by omega]
        · have hh : hitAt mm P B (fun t => T t && !(decide (0 ≤ t ∧ t < 16 * k) && hitAt mm P B T t)) t = hitAt mm P B T t := hitAt_congr (by simp [c1])
          rw [hh]
          by_cases c2 : t < 16 * k + 16
          · simp [c1, c2, show 16 * k ≤ t by omega]
          · simp [c1, c2]
      · show (stS n mm P B (T, D, g) (whichN D k)).2.2 + cntR mm P B (stS n mm P B (T, D, g) (whichN D k)).1 (16 * k) 16 = _
        rw [h1, h2, e16, cntR_add, Nat.zero_add, Nat.add_assoc]
        congr 1
        congr 1
        exact cntR_congr mm P B _ _ fun t a b => by unfold swpR; simp [show ¬ t < 16 * k by omega]
    | false =>
      have hn : ∀ t, 16 * k ≤ t → t < 16 * k + 16 → T t = false := fun t a b => by
        cases e : T t with
        | false => rfl
        | true =>
          have := hI t e
          rw [show t / 16 = k by omega, hD] at this
          cases this
      rw [whichN_no hD, h1, h2, e16, cntR_add, Nat.zero_add, cntR_none mm P B _ _ hn, Nat.add_zero]
      refine ⟨?_, rfl⟩
      funext t
      unfold swpR
      by_cases c1 : t < 16 * k
      · simp [c1, show t < 16 * k + 16 by omega]
      · by_cases c2 : t < 16 * k + 16
        · simp [hn t (by omega) c2]
        · simp [c1, c2]
theorem stS_append (z : (Nat → Bool) × (Nat → Bool) × Nat) (a b : List Nat) : stS n mm P B z (a ++ b) = stS n mm P B (stS n mm P B z a) b := by
  unfold stS
  rw [List.foldl_append]
/-- What is left of the tags, and how many are gone. -/
theorem told_left (N : Nat) : whichN (swpR mm P B T 0 N) N = (whichN T N).filter fun t => !hitAt mm P B T t := by
  unfold whichN
  rw [List.filter_filter]
  refine List.filter_congr fun t ht => ?_
  have := List.mem_range.1 ht
  unfold swpR
  simp [this, Bool.and_comm]
theorem told_gone (N : Nat) : ((whichN T N).filter fun t => !hitAt mm P B T t).length + cntR mm P B T 0 N = (whichN T N).length := by
  have h : cntR mm P B T 0 N = ((whichN T N).filter fun t => hitAt mm P B T t).length := by
    unfold cntR whichN
    rw [List.filter_filter]
    congr 1
    refine List.filter_congr fun t _ => ?_
    rw [Nat.zero_add]
    cases e : hitAt mm P B T t with
    | false => simp
    | true => simp [hitAt_tag e]
  rw [h]
  generalize whichN T N = l
  induction l with
  | nil => rfl
  | cons a l ih => cases e : hitAt mm P B T a <;> simp [e] <;> omega
end

end Go.Proofs.Ythamfkbopjagdaa
