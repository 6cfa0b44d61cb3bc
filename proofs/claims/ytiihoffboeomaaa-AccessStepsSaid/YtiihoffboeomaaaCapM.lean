/- Layer 2: what the laws say of numbers. -/
import Derived.Test.YtiihoffboeomaaaCapA
namespace Go.Proofs.Ytiihoffboeomaaa
set_option linter.unusedSimpArgs false
set_option linter.unusedVariables false
open Go.RowKit

theorem low32_eq (n : Int) (h0 : -9223372036854775808 ≤ n) (h1 : n ≤ 9223372036854775807) : low32 n = n % 4294967296 := by
  have hb : (BitVec.ofInt 64 n).toNat = (n % 18446744073709551616).toNat := by
    rw [BitVec.toNat_ofInt]; rfl
  show IntKind.i64.wrap ((BitVec.ofInt 64 n &&& BitVec.ofInt 64 4294967295).toNat : Int) = _
  rw [BitVec.toNat_and, hb, show (BitVec.ofInt 64 4294967295).toNat = 2 ^ 32 - 1 from by decide, Nat.and_two_pow_sub_one_eq_mod, IntKind.wrap_i64]
  omega
theorem low32_bd (n : Int) (h0 : -9223372036854775808 ≤ n) (h1 : n ≤ 9223372036854775807) : 0 ≤ low32 n ∧ low32 n ≤ 4294967295 := by
  rw [low32_eq n h0 h1]; omega
theorem low32_small (n : Int) (h0 : 0 ≤ n) (h1 : n ≤ 4294967295) : low32 n = n := by
  rw [low32_eq n (by omega) (by omega)]; omega
theorem wf64 {n : Int} (h : (Lit.int .i64 n).wf = true) : -9223372036854775808 ≤ n ∧ n ≤ 9223372036854775807 := by
  simpa [Lit.wf, IntKind.min, IntKind.max, IntKind.signed, IntKind.bits] using h
theorem wfu32 {n : Int} (h : (Lit.int .u32 n).wf = true) : 0 ≤ n ∧ n ≤ 4294967295 := by
  simpa [Lit.wf, IntKind.min, IntKind.max, IntKind.signed, IntKind.bits] using h
theorem wrap64_id {x : Int} (h0 : -9223372036854775808 ≤ x) (h1 : x ≤ 9223372036854775807) : wrap64 x = x := by simp [wrap64]; omega
theorem rightC_bd {c : Cap} (h : rightC c = true) : 0 ≤ c.base ∧ c.base ≤ 4294967295 ∧ 0 ≤ c.top ∧ c.top ≤ 4294967295 ∧ 0 ≤ c.at_ ∧ c.at_ ≤ 4294967295 ∧ 0 ≤ c.perms ∧ c.perms ≤ 127 ∧ 0 ≤ c.type ∧ c.type ≤ 255 ∧ (c.tag = true → c.base ≤ c.top ∧ c.top ≤ 16777216) := by
  simp [rightC, holdsB, rightB] at h
  obtain ⟨⟨⟨⟨⟨⟨⟨h1, h2⟩, h3, h4⟩, h5, h6⟩, h7, h8⟩, h9⟩, h10⟩, h11⟩ := h
  refine ⟨h1, h2, h3, h4, h5, h6, h7, h8, h9, h10, fun ht => ?_⟩
  rcases h11 with h | h
  · rw [ht] at h; cases h
  · exact h
theorem rightC_mk {c : Cap} (h : 0 ≤ c.base ∧ c.base ≤ 4294967295 ∧ 0 ≤ c.top ∧ c.top ≤ 4294967295 ∧ 0 ≤ c.at_ ∧ c.at_ ≤ 4294967295 ∧ 0 ≤ c.perms ∧ c.perms ≤ 127 ∧ 0 ≤ c.type ∧ c.type ≤ 255 ∧ (c.tag = true → c.base ≤ c.top ∧ c.top ≤ 16777216)) : rightC c = true := by
  obtain ⟨h1, h2, h3, h4, h5, h6, h7, h8, h9, h10, h11⟩ := h
  simp only [rightC, holdsB, rightB, h1, h2, h3, h4, h5, h6, h7, h8, h9, h10, decide_true, Bool.and_true, Bool.true_and]
  cases ht : c.tag
  · rfl
  · have := h11 ht
    simp [this.1, this.2]
theorem underC_bd {c d : Cap} (h : underC c d = true) : d.base ≤ c.base ∧ c.base ≤ d.top ∧ d.base ≤ c.top ∧ c.top ≤ d.top ∧ c.base ≤ c.top ∧ hasB d.perms c.perms = true := by
  simp only [underC, extUnder, holdsB, Bool.and_eq_true, decide_eq_true_eq] at h
  obtain ⟨⟨⟨⟨h1, h2⟩, h3, h4⟩, h5⟩, h6⟩ := h
  exact ⟨h1, h2, h3, h4, h5, h6⟩
theorem underC_mk {c d : Cap} (h : d.base ≤ c.base ∧ c.top ≤ d.top ∧ c.base ≤ c.top ∧ hasB d.perms c.perms = true) : underC c d = true := by
  obtain ⟨h1, h2, h3, h4⟩ := h
  have h5 : c.base ≤ d.top := by omega
  have h6 : d.base ≤ c.top := by omega
  simp only [underC, extUnder, holdsB, h1, h2, h3, h4, h5, h6, decide_true, Bool.and_true]
end Go.Proofs.Ytiihoffboeomaaa
