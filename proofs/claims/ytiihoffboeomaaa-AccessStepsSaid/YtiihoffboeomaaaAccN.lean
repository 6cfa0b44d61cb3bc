/- Layer 5: sets of permissions, and bytes one by one. -/
import Derived.Test.YtiihoffboeomaaaAccM
namespace Go.Proofs.Ytiihoffboeomaaa
set_option linter.unusedSimpArgs false
set_option linter.unusedVariables false
open Go.RowKit

theorem and127N : ∀ n : Nat, n < 256 → bits .and .u8 (n : Int) 127 = ((n % 128 : Nat) : Int) := by decide +kernel
theorem and127 {n : Int} (h0 : 0 ≤ n) (h1 : n ≤ 255) : bits .and .u8 n 127 = n % 128 := by
  obtain ⟨m, rfl⟩ := Int.eq_ofNat_of_zero_le h0
  exact and127N m (by omega)
theorem orN : ∀ a : Nat, a < 128 → ∀ b : Nat, b < 128 → (rightB (bits .or .i64 (a : Int) (b : Int)) && (List.range 7).all fun i => bitB (bits .or .i64 (a : Int) (b : Int)) i == (bitB (a : Int) i || bitB (b : Int) i)) = true := by decide +kernel
theorem or_right {a b : Int} (ha : 0 ≤ a ∧ a ≤ 127) (hb : 0 ≤ b ∧ b ≤ 127) : rightB (bits .or .i64 a b) = true ∧ ∀ i, i < 7 → bitB (bits .or .i64 a b) i = (bitB a i || bitB b i) := by
  obtain ⟨m, rfl⟩ := Int.eq_ofNat_of_zero_le ha.1
  obtain ⟨k, rfl⟩ := Int.eq_ofNat_of_zero_le hb.1
  have h := orN m (by omega) k (by omega)
  simp only [Bool.and_eq_true, List.all_eq_true, List.mem_range, beq_iff_eq] at h
  exact h
theorem hasB_or {p a b : Int} (ha : 0 ≤ a ∧ a ≤ 127) (hb : 0 ≤ b ∧ b ≤ 127) : hasB p (bits .or .i64 a b) = (hasB p a && hasB p b) := by
  obtain ⟨h1, h2⟩ := or_right ha hb
  rw [← hasR_has, ← hasR_has, ← hasR_has, Bool.eq_iff_iff, Bool.and_eq_true, hasR_iff, hasR_iff, hasR_iff]
  constructor
  · rintro ⟨h, hp, _⟩
    exact ⟨⟨fun i hi hb => h i hi (by rw [h2 i hi, hb]; rfl), hp, rightB_iff.2 ha⟩, fun i hi hb => h i hi (by rw [h2 i hi, hb]; simp), hp, rightB_iff.2 hb⟩
  · rintro ⟨⟨h, hp, _⟩, h', _⟩
    refine ⟨fun i hi hb => ?_, hp, h1⟩
    rw [h2 i hi, Bool.or_eq_true] at hb
    exact hb.elim (h i hi) (h' i hi)
theorem hasN_none : ∀ p : Nat, p < 128 → hasB (p : Int) 0 = true := by decide +kernel
theorem hasB_none {p : Int} (h : rightB p = true) : hasB p 0 = true := by
  obtain ⟨h0, h1⟩ := rightB_iff.1 h
  obtain ⟨m, rfl⟩ := Int.eq_ofNat_of_zero_le h0
  exact hasN_none m (by omega)
theorem chkE_none {c : Cap} {need off n : Int} (h : chkE c need off n = 0) : chkE c 0 off n = 0 := by
  obtain ⟨h1, h2, h3, h4, h5, h6, h7, h8⟩ := chkE0.1 h
  exact chkE0.2 ⟨h1, by decide, h3, h4, h5, hasB_none (rightB_iff.2 (hasB_right h6).1), h7, h8⟩
theorem chkE_some {c : Cap} {need off n : Int} (h : chkE c 0 off n = 0) (hn : rightB need = true) : chkE c need off n = if hasB c.perms need then 0 else 44 := by
  obtain ⟨h1, h2, h3, h4, h5, h6, h7, h8⟩ := chkE0.1 h
  cases hq : hasB c.perms need
  · simp [chkE, h1, hn, h3.1, h3.2, h4, h5, hq]
  · exact chkE0.2 ⟨h1, hn, h3, h4, h5, hq, h7, h8⟩
def allOk (c : Cap) (need off : Int) : Nat → Bool
  | 0 => true
  | j + 1 => allOk c need off j && decide (chkE c need (off + j) 1 = 0)
theorem allOk_of {c : Cap} {need off : Int} {k : Nat} (h : ∀ j, j < k → chkE c need (off + j) 1 = 0) : allOk c need off k = true := by
  induction k with
  | zero => rfl
  | succ k ih => simp only [allOk, Bool.and_eq_true, decide_eq_true_eq]; exact ⟨ih fun j hj => h j (by omega), h k (by omega)⟩
theorem allOk_at {c : Cap} {need off : Int} {k : Nat} (h : allOk c need off k = true) (j : Nat) (hj : j < k) : chkE c need (off + j) 1 = 0 := by
  induction k with
  | zero => omega
  | succ k ih =>
    simp only [allOk, Bool.and_eq_true, decide_eq_true_eq] at h
    by_cases e : j = k
    · rw [e]; exact h.2
    · exact ih h.1 (by omega)
theorem allOk_eq (c : Cap) (need off : Int) (k : Nat) (h1 : 1 ≤ k) (h2 : k ≤ 16) (h3 : -32768 ≤ off) (h4 : off ≤ 32767) : decide (chkE c need off k = 0) = allOk c need off k := by
  rw [Bool.eq_iff_iff, decide_eq_true_eq]
  constructor
  · intro h
    have q := chkE0_nums h
    obtain ⟨g1, g2, g3, g4, g5, g6, g7, g8⟩ := chkE0.1 h
    refine allOk_of fun j hj => chkE0.2 ⟨g1, g2, by omega, g4, g5, g6, by simp only [nearB, Bool.and_eq_true, decide_eq_true_eq]; omega, ?_⟩
    rw [wrap64_id (by omega) (by omega), inC_iff (by omega) (by omega)]
    omega
  · intro h
    have a := allOk_at h 0 (by omega)
    have b := allOk_at h (k - 1) (by omega)
    have qa := chkE0_nums a
    have qb := chkE0_nums b
    obtain ⟨g1, g2, g3, g4, g5, g6, g7, g8⟩ := chkE0.1 a
    refine chkE0.2 ⟨g1, g2, by omega, g4, g5, g6, by simp only [nearB, Bool.and_eq_true, decide_eq_true_eq]; omega, ?_⟩
    rw [wrap64_id (by omega) (by omega), inC_iff (by omega) (by omega)]
    omega
end Go.Proofs.Ytiihoffboeomaaa
