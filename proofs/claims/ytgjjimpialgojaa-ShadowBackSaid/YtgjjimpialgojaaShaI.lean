/- Layer 8: what painting does. -/
import Derived.Test.YtgjjimpialgojaaOpenS
import Derived.Test.YtgjjimpialgojaaStepT
namespace Go.Proofs.Ytgjjimpialgojaa
set_option linter.unusedSimpArgs false
set_option linter.unusedVariables false
open Go.RowKit


theorem paintP_go {n F N : Nat} {P : Nat → Bool} {b : Bool} (h : F + N ≤ n) : fineP n (16 * (F : Int)) (16 * (F : Int) + 16 * (N : Int)) = true ∧ paintP n P (16 * (F : Int)) (16 * (F : Int) + 16 * (N : Int)) b = updR P F N b := by
  have hf : fineP n (16 * (F : Int)) (16 * (F : Int) + 16 * (N : Int)) = true := by
    unfold fineP
    simp only [Bool.and_eq_true, decide_eq_true_eq]
    omega
  refine ⟨hf, ?_⟩
  unfold paintP
  rw [hf]
  simp only [if_true]
  rw [show (16 * (F : Int)).toNat / 16 = F by omega, show ((16 * (F : Int) + 16 * (N : Int)).toNat - (16 * (F : Int)).toNat) / 16 = N by omega]
theorem cnt_updR {P : Nat → Bool} {F : Nat} : ∀ N, (∀ i, i < N → P (F + i) = false) → ∀ n, F + N ≤ n → cnt (updR P F N true) n = cnt P n + N := by
  intro N h n hn
  obtain ⟨m, rfl⟩ : ∃ m, n = F + N + m := ⟨n - (F + N), by omega⟩
  rw [cnt_add, cnt_add, cnt_add P (F + N), cnt_add P F]
  have e1 : cnt (updR P F N true) F = cnt P F := cnt_congr F fun j hj => by unfold updR; rw [if_neg (by omega)]
  have e2 : cnt (fun j => updR P F N true (F + j)) N = N := by
    have : ∀ k, k ≤ N → cnt (fun j => updR P F N true (F + j)) k = k := by
      intro k
      induction k with
      | zero => intro _; rfl
      | succ k ih =>
        intro hk
        show cnt (fun j => updR P F N true (F + j)) k + (if updR P F N true (F + k) then 1 else 0) = k + 1
        have e : updR P F N true (F + k) = true := by unfold updR; rw [if_pos (by omega)]
        rw [ih (by omega), e]
        rfl
    exact this N (Nat.le_refl _)
  have e3 : cnt (fun j => P (F + j)) N = 0 := cnt_none N h
  have e4 : cnt (fun j => updR P F N true (F + N + j)) m = cnt (fun j => P (F + N + j)) m := cnt_congr m fun j hj => by unfold updR; rw [if_neg (by omega)]
  rw [e1, e2, e3, e4]
  omega
theorem updR_back {P : Nat → Bool} {F N : Nat} (h : ∀ i, i < N → P (F + i) = false) : updR (updR P F N true) F N false = P := by
  funext x
  unfold updR
  by_cases hx : F ≤ x ∧ x < F + N
  · rw [if_pos hx]
    have := h (x - F) (by omega)
    rw [show F + (x - F) = x by omega] at this
    exact this.symm
  · rw [if_neg hx, if_neg hx]
theorem updR_parts (P : Nat → Bool) (F K M : Nat) (b : Bool) : updR (updR P (F + K) M b) F K b = updR P F (K + M) b := by
  funext x
  unfold updR
  by_cases h1 : F ≤ x ∧ x < F + K
  · rw [if_pos h1, if_pos (by omega)]
  · rw [if_neg h1]
    by_cases h2 : F + K ≤ x ∧ x < F + K + M
    · rw [if_pos h2, if_pos (by omega)]
    · rw [if_neg h2, if_neg (by omega)]
theorem isP_at {n j g : Nat} {P : Nat → Bool} (h : j / 16 = g) : isP n P (j : Int) = P g := by
  unfold isP
  simp [h]

end Go.Proofs.Ytgjjimpialgojaa
