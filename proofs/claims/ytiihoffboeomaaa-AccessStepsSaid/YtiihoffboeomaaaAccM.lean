/- Layer 5: what the laws say of the answers. -/
import Derived.Test.YtiihoffboeomaaaCapMR
import Derived.Test.YtiihoffboeomaaaAccR
namespace Go.Proofs.Ytiihoffboeomaaa
set_option linter.unusedSimpArgs false
set_option linter.unusedVariables false
open Go.RowKit

theorem chkRE_eq (c : Cap) (need off n : Int) : chkRE c need off n = chkE c need off n := by simp only [chkRE, chkE, hasR_has, inR_in]
theorem chkRA_eq (c : Cap) (need off n : Int) : chkRA c need off n = chkA c need off n := by simp only [chkRA, chkA, chkRE_eq]
theorem chkE0 {c : Cap} {need off n : Int} : chkE c need off n = 0 ↔ rightC c = true ∧ rightB need = true ∧ (1 ≤ n ∧ n ≤ 16) ∧ c.tag = true ∧ c.type = 0 ∧ hasB c.perms need = true ∧ nearB off = true ∧ inC c (wrap64 (c.at_ + off)) n = true := by
  simp only [chkE]
  split
  · rename_i h; simp only [Bool.and_eq_false_iff, decide_eq_false_iff_not] at h
    constructor
    · intro h; cases h
    · rintro ⟨h1, h2, h3, _⟩
      rcases h with ((h | h) | h) | h
      · rw [h1] at h; cases h
      · rw [h2] at h; cases h
      · omega
      · omega
  rename_i h; simp only [Bool.and_eq_false_iff, decide_eq_false_iff_not, not_or, Bool.not_eq_false, Decidable.not_not] at h
  split
  · rename_i h'; simp [h']
  rename_i h1; simp only [Bool.not_eq_false] at h1
  split
  · rename_i h'; simp [h']
  rename_i h2; simp only [Decidable.not_not] at h2
  split
  · rename_i h'; simp [h']
  rename_i h3; simp only [Bool.not_eq_false] at h3
  split
  · rename_i h'; simp only [Bool.and_eq_false_iff] at h'
    constructor
    · intro h; cases h
    · rintro ⟨_, _, _, _, _, _, h4, h5⟩
      rw [h4, h5] at h'; simp at h'
  rename_i h4; simp only [Bool.and_eq_false_iff, not_or, Bool.not_eq_false] at h4
  exact ⟨fun _ => ⟨h.1.1.1, h.1.1.2, ⟨h.1.2, h.2⟩, h1, h2, h3, h4.1, h4.2⟩, fun _ => rfl⟩
theorem chkA0 {c : Cap} {need off n : Int} (h : chkE c need off n = 0) : chkA c need off n = wrap64 (c.at_ + off) := if_pos h
theorem chkA1 {c : Cap} {need off n : Int} (h : ¬ chkE c need off n = 0) : chkA c need off n = 0 := if_neg h
theorem nearB_bd {n : Int} (h : nearB n = true) : -65536 ≤ n ∧ n ≤ 65536 := by simpa [nearB] using h
theorem inC_iff {c : Cap} {x n : Int} (b0 : 0 ≤ c.base) (t0 : c.top ≤ 4294967295) : inC c x n = true ↔ 0 ≤ n ∧ c.base ≤ x ∧ x ≤ c.top ∧ x + n ≤ c.top := by
  simp only [inC, Bool.and_eq_true, decide_eq_true_eq]
  constructor
  · rintro ⟨⟨⟨⟨h1, h2⟩, h3⟩, h4⟩, h5⟩
    rw [wrap64_id (by omega) (by omega)] at h5
    exact ⟨h2, h3, h4, by omega⟩
  · rintro ⟨h1, h2, h3, h4⟩
    refine ⟨⟨⟨⟨by omega, h1⟩, h2⟩, h3⟩, ?_⟩
    rw [wrap64_id (by omega) (by omega)]; omega
/-- What an answer OK says, in numbers. -/
theorem chkE0_nums {c : Cap} {need off n : Int} (h : chkE c need off n = 0) : wrap64 (c.at_ + off) = c.at_ + off ∧ 0 ≤ c.base ∧ c.top ≤ 16777216 ∧ c.base ≤ c.at_ + off ∧ c.at_ + off + n ≤ c.top ∧ 1 ≤ n ∧ n ≤ 16 ∧ 0 ≤ c.at_ ∧ c.at_ ≤ 4294967295 ∧ -65536 ≤ off ∧ off ≤ 65536 := by
  obtain ⟨h1, h2, h3, h4, h5, h6, h7, h8⟩ := chkE0.1 h
  have b := rightC_bd h1
  have t := b.2.2.2.2.2.2.2.2.2.2 h4
  have n := nearB_bd h7
  have hw : wrap64 (c.at_ + off) = c.at_ + off := wrap64_id (by omega) (by omega)
  rw [hw, inC_iff (by omega) (by omega)] at h8
  exact ⟨hw, by omega, by omega, by omega, by omega, by omega, by omega, by omega, by omega, by omega, by omega⟩
theorem chkE_under {c d : Cap} {need off n : Int} (h : chkE c need off n = 0) (hu : underC c d = true) (hr : rightC d = true) (ht : d.tag = true) (hy : d.type = 0) (ha : d.at_ = c.at_) : chkE d need off n = 0 := by
  have q := chkE0_nums h
  obtain ⟨h1, h2, h3, h4, h5, h6, h7, h8⟩ := chkE0.1 h
  have u := underC_bd hu
  have b := rightC_bd hr
  refine chkE0.2 ⟨hr, h2, h3, ht, hy, hasB_trans u.2.2.2.2.2 h6, h7, ?_⟩
  rw [ha, q.1, inC_iff (by omega) (by omega)]
  omega
end Go.Proofs.Ytiihoffboeomaaa
