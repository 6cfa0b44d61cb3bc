/- Layer 15: there and back. -/
import Derived.Test.YtcbniifpbcgamaaCodL
import Derived.Test.YtcbniifpbcgamaaCodP
import Derived.Test.YtcbniifpbcgamaaStep
namespace Go.Proofs.Ytcbniifpbcgamaa
set_option linter.unusedSimpArgs false
set_option linter.unusedVariables false
open Go.RowKit


theorem kd_bd {op : Int} (h : ¬ kd op = 0) : 0 ≤ op ∧ op ≤ 29 := by
  unfold kd at h
  simp only [List.mem_cons, List.not_mem_nil, or_false] at h
  repeat' split at h
  all_goals omega
theorem right_bd {op a b c : Int} (h : rightI op a b c = true) : ¬ kd op = 0 ∧ (0 ≤ a ∧ a ≤ 255) ∧ ((kd op = 2 ∨ kd op = 5) → (-32768 ≤ b ∧ b ≤ 32767) ∧ c = 0) ∧ (¬ (kd op = 2 ∨ kd op = 5) → (0 ≤ b ∧ b ≤ 255) ∧ 0 ≤ c ∧ c ≤ 255) := by
  unfold rightI at h
  rcases kd_cases op with hk | hk | hk | hk | hk | hk | hk | hk <;> rw [hk] at h ⊢ <;> simp [kA, kB, kC, fR, fI, fW, fZ] at h ⊢ <;> omega
theorem putI_list {op a b c : Int} (h : rightI op a b c = true) : ∃ y2 y3 : Int, putI op a b c = [op, a, y2, y3] ∧ (0 ≤ y2 ∧ y2 ≤ 255) ∧ (0 ≤ y3 ∧ y3 ≤ 255) ∧ gB op y2 y3 = b ∧ gC op y3 = c := by
  obtain ⟨h0, h1, h2, h3⟩ := right_bd h
  obtain ⟨h4, h5⟩ := kd_bd h0
  unfold putI gB gC
  by_cases hw : kd op = 2 ∨ kd op = 5
  · obtain ⟨h6, h7⟩ := h2 hw
    refine ⟨b / 256 % 256, b % 256, ?_, by omega, by omega, ?_, ?_⟩
    · rw [if_pos hw, show op % 256 = op by omega, show a % 256 = a by omega]
    · rw [if_pos hw]
      unfold sgn16
      split <;> omega
    · rw [if_pos hw, h7]
  · obtain ⟨h6, h7⟩ := h3 hw
    refine ⟨b, c, ?_, h6, h7, ?_, ?_⟩
    · rw [if_neg hw, show op % 256 = op by omega, show a % 256 = a by omega, show b % 256 = b by omega, show c % 256 = c by omega]
    · rw [if_neg hw]
    · rw [if_neg hw]
theorem getI_put {x0 x1 x2 x3 : Int} (h0 : 0 ≤ x0 ∧ x0 ≤ 255) (h1 : 0 ≤ x1 ∧ x1 ≤ 255) (h2 : 0 ≤ x2 ∧ x2 ≤ 255) (h3 : 0 ≤ x3 ∧ x3 ≤ 255) : putI x0 x1 (gB x0 x2 x3) (gC x0 x3) = [x0, x1, x2, x3] := by
  unfold putI gB gC
  by_cases hw : kd x0 = 2 ∨ kd x0 = 5
  · simp only [if_pos hw]
    unfold sgn16
    simp only [List.cons.injEq, and_true]
    split <;> omega
  · simp only [if_neg hw]
    simp only [List.cons.injEq, and_true]
    omega
theorem putI_inj {op a b c op' a' b' c' : Int} (h : rightI op a b c = true) (h' : rightI op' a' b' c' = true) : putI op a b c = putI op' a' b' c' ↔ op = op' ∧ a = a' ∧ b = b' ∧ c = c' := by
  constructor
  · intro e
    obtain ⟨y2, y3, e1, _, _, e2, e3⟩ := putI_list h
    obtain ⟨z2, z3, f1, _, _, f2, f3⟩ := putI_list h'
    rw [e1, f1] at e
    simp only [List.cons.injEq, and_true] at e
    obtain ⟨rfl, rfl, rfl, rfl⟩ := e
    exact ⟨rfl, rfl, e2.symm.trans f2, e3.symm.trans f3⟩
  · rintro ⟨rfl, rfl, rfl, rfl⟩
    rfl
theorem getR_ok4 {x0 x1 x2 x3 b c : Int} (h : rightI x0 x1 b c = true) (hb : gB x0 x2 x3 = b) (hc : gC x0 x3 = c) : getR x0 x1 x2 x3 = .tuple #[.agg #[.int .i64 x0, .int .i64 x1, .int .i64 b, .int .i64 c], .int .i64 0] := by
  unfold getR
  rw [hb, hc, if_pos h]
theorem getR_no4 {x0 x1 x2 x3 : Int} (h : rightI x0 x1 (gB x0 x2 x3) (gC x0 x3) = false) : getR x0 x1 x2 x3 = .tuple #[.agg #[.int .i64 0, .int .i64 0, .int .i64 0, .int .i64 0], .int .i64 151] := by
  unfold getR
  rw [if_neg (by rw [h]; simp)]
theorem str_beq {l m : List Int} (hl : byteL l) (hm : byteL m) : ((strOf l).toList == (strOf m).toList) = decide (l = m) := by
  rw [Bool.eq_iff_iff, beq_iff_eq, decide_eq_true_iff]
  exact ⟨fun h => strOf_inj hl hm (ByteArray.ext (Array.toList_inj.1 (by rw [ByteArray.toList_eq, ByteArray.toList_eq] at h; exact h))), fun h => by rw [h]⟩
theorem putI_byte (op a b c : Int) : byteL (putI op a b c) := by
  intro n hn
  unfold putI at hn
  split at hn <;> simp only [List.mem_cons, List.not_mem_nil, or_false] at hn <;> omega
theorem putI_str {op a b c op' a' b' c' : Int} {B : Bool} (h : rightI op a b c = true) (h' : rightI op' a' b' c' = true) (hB : decide (op = op' ∧ a = a' ∧ b = b' ∧ c = c') = B) : ((strOf (putI op a b c)).toList == (strOf (putI op' a' b' c')).toList) = B := by
  rw [str_beq (putI_byte _ _ _ _) (putI_byte _ _ _ _), ← hB, decide_eq_decide]
  exact putI_inj h h'
theorem quiet_strI {o : Oper} {a : Act} {w : World} {K : Act → Prop} (x : Operand) (ho : o.op = .convert 24 9 x) (A : Option Addr) (c : Nat) (p q r s : Int) (hx : a.eval x = .slice A 4 c) (hr : RdB w A (putI p q r s)) (k : K (a.put o.dst (.string (strOf (putI p q r s))))) : o.quiet Try.prog a (Grown w) K :=
  quiet_str 24 9 5 x ho Try.underlying24 Try.underlying5 Try.underlying9 A c 4 (putI p q r s) hx (putI_length p q r s).symm hr (fun h => absurd (congrArg List.length h) (by rw [putI_length]; simp)) k

end Go.Proofs.Ytcbniifpbcgamaa
