/- Layer 2: the code's answers and the document's are the same numbers. -/
import Derived.Test.YtiihoffboeomaaaCapM
import Derived.Test.YtiihoffboeomaaaCapR
namespace Go.Proofs.Ytiihoffboeomaaa
set_option linter.unusedSimpArgs false
set_option linter.unusedVariables false
open Go.RowKit

theorem modR_eq (n : Int) (h0 : -9223372036854775808 ≤ n) (h1 : n ≤ 9223372036854775807) : modR n = n % 4294967296 := by
  have ht : n.tmod 4294967296 = if 0 ≤ n then n % 4294967296 else -(-n % 4294967296) := by
    split
    · exact Int.tmod_eq_emod_of_nonneg (by omega)
    · rw [← Int.neg_neg n, Int.neg_tmod, Int.tmod_eq_emod_of_nonneg (by omega), Int.neg_neg]
  simp only [modR, ht]
  split <;> split <;> (try rw [wrap64_id (by omega) (by omega)]) <;> omega
theorem modR_low (n : Int) (h0 : -9223372036854775808 ≤ n) (h1 : n ≤ 9223372036854775807) : modR n = low32 n := by
  rw [modR_eq n h0 h1, low32_eq n h0 h1]
theorem wrap64_bd (x : Int) : -9223372036854775808 ≤ wrap64 x ∧ wrap64 x ≤ 9223372036854775807 := by
  simp only [wrap64]; constructor <;> (try split) <;> omega
theorem wrap64_mod (x : Int) : wrap64 x % 4294967296 = x % 4294967296 := by
  simp only [wrap64]; (try split) <;> omega
theorem offR_off (c : Cap) (b0 : -9223372036854775808 ≤ c.base) (b1 : c.base ≤ 9223372036854775807) (a0 : -9223372036854775808 ≤ c.at_) (a1 : c.at_ ≤ 9223372036854775807) : offR c = offC c := by
  simp only [offR, offC]
  have hw := wrap64_bd (c.at_ - c.base)
  have hm := wrap64_mod (c.at_ - c.base)
  rw [modR_eq _ a0 a1, modR_eq _ b0 b1, low32_eq _ hw.1 hw.2, hm, wrap64_id (by omega) (by omega), modR_eq _ (by omega) (by omega)]
  omega
theorem inR_in (c : Cap) (x n : Int) : inR c x n = inC c x n := by
  by_cases h : 0 ≤ x
  · simp only [inR, inC, Int.max_eq_left h]
  · simp [inR, inC, h]
theorem hasN : ∀ p : Nat, p < 128 → ∀ q : Nat, q < 128 → hasR (p : Int) (q : Int) = hasB (p : Int) (q : Int) := by decide +kernel
theorem hasR_has (p q : Int) : hasR p q = hasB p q := by
  cases hp : rightB p
  · simp [hasR, hasB, hp]
  cases hq : rightB q
  · simp [hasR, hasB, hq]
  obtain ⟨p0, p1⟩ := rightB_iff.1 hp
  obtain ⟨q0, q1⟩ := rightB_iff.1 hq
  obtain ⟨m, rfl⟩ := Int.eq_ofNat_of_zero_le p0
  obtain ⟨k, rfl⟩ := Int.eq_ofNat_of_zero_le q0
  exact hasN m (by omega) k (by omega)
theorem underR_under (c d : Cap) : underR c d = underC c d := by
  simp only [underR, underC, extUnder, holdsB, hasR_has]
  cases hasB d.perms c.perms
  · simp
  · simp only [Bool.and_true]
    rw [Bool.eq_iff_iff]; simp; omega
theorem hasR_iff {p q : Int} : hasR p q = true ↔ (∀ i, i < 7 → bitB q i = true → bitB p i = true) ∧ rightB p = true ∧ rightB q = true := by
  simp only [hasR, Bool.and_eq_true, List.all_eq_true, List.mem_range, Bool.not_eq_true', Bool.and_eq_false_iff, Bool.not_eq_false', and_assoc]
  refine and_congr ⟨fun h i hi hq => ?_, fun h i hi => ?_⟩ Iff.rfl
  · rcases h i hi with h | h
    · rw [h] at hq; cases hq
    · simpa using h
  · cases hq : bitB q i
    · exact Or.inl rfl
    · exact Or.inr (by simpa using h i hi hq)
theorem hasB_trans {p q r : Int} (h1 : hasB p q = true) (h2 : hasB q r = true) : hasB p r = true := by
  rw [← hasR_has] at *
  obtain ⟨a1, a2, a3⟩ := hasR_iff.1 h1
  obtain ⟨b1, b2, b3⟩ := hasR_iff.1 h2
  exact hasR_iff.2 ⟨fun i hi h => a1 i hi (b1 i hi h), a2, b3⟩
theorem hasN_refl : ∀ p : Nat, p < 128 → hasB (p : Int) (p : Int) = true := by decide +kernel
theorem hasB_refl {p : Int} (h0 : 0 ≤ p) (h1 : p ≤ 127) : hasB p p = true := by
  obtain ⟨m, rfl⟩ := Int.eq_ofNat_of_zero_le h0
  exact hasN_refl m (by omega)
theorem hasN_all : ∀ p : Nat, p < 128 → hasB 127 (p : Int) = true := by decide +kernel
theorem hasB_all {p : Int} (h0 : 0 ≤ p) (h1 : p ≤ 127) : hasB 127 p = true := by
  obtain ⟨m, rfl⟩ := Int.eq_ofNat_of_zero_le h0
  exact hasN_all m (by omega)
theorem hasN_anti : ∀ p : Nat, p < 128 → ∀ q : Nat, q < 128 → hasB (p : Int) (q : Int) = true → hasB (q : Int) (p : Int) = true → p = q := by decide +kernel
theorem hasB_right {p q : Int} (h : hasB p q = true) : (0 ≤ p ∧ p ≤ 127) ∧ 0 ≤ q ∧ q ≤ 127 := by
  simp only [hasB, Bool.and_eq_true] at h
  exact ⟨rightB_iff.1 h.1.1, rightB_iff.1 h.1.2⟩
theorem hasB_anti {p q : Int} (h1 : hasB p q = true) (h2 : hasB q p = true) : p = q := by
  obtain ⟨⟨p0, p1⟩, q0, q1⟩ := hasB_right h1
  obtain ⟨m, rfl⟩ := Int.eq_ofNat_of_zero_le p0
  obtain ⟨k, rfl⟩ := Int.eq_ofNat_of_zero_le q0
  exact congrArg _ (hasN_anti m (by omega) k (by omega) h1 h2)
theorem underC_trans {c d e : Cap} (h1 : underC c d = true) (h2 : underC d e = true) : underC c e = true := by
  have a := underC_bd h1
  have b := underC_bd h2
  exact underC_mk ⟨by omega, by omega, by omega, hasB_trans b.2.2.2.2.2 a.2.2.2.2.2⟩
theorem underC_refl {c : Cap} (h : rightC c = true) (t : c.tag = true) : underC c c = true := by
  have a := rightC_bd h
  have b := a.2.2.2.2.2.2.2.2.2.2 t
  exact underC_mk ⟨by omega, by omega, by omega, hasB_refl (by omega) (by omega)⟩
theorem underC_anti {c d : Cap} (h1 : underC c d = true) (h2 : underC d c = true) : c.base = d.base ∧ c.top = d.top ∧ c.perms = d.perms := by
  have a := underC_bd h1
  have b := underC_bd h2
  exact ⟨by omega, by omega, hasB_anti b.2.2.2.2.2 a.2.2.2.2.2⟩
end Go.Proofs.Ytiihoffboeomaaa
