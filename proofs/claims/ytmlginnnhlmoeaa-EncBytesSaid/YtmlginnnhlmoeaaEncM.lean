/- Layer 3: bytes tell what they are of. -/
import Derived.Test.YtmlginnnhlmoeaaEncI
import Derived.Test.YtmlginnnhlmoeaaStep
namespace Go.Proofs.Ytmlginnnhlmoeaa
set_option linter.unusedSimpArgs false
set_option linter.unusedVariables false
open Go.RowKit


theorem four_inj {x y : Int} (hx : 0 ≤ x ∧ x ≤ 4294967295) (hy : 0 ≤ y ∧ y ≤ 4294967295) (h : four x = four y) : x = y := by
  simp only [four, List.cons.injEq, and_true] at h
  omega
theorem right_bd {t : Bool} {b tp a p ty : Int} (h : rightC ⟨t, b, tp, a, p, ty⟩ = true) : (0 ≤ b ∧ b ≤ 4294967295) ∧ (0 ≤ tp ∧ tp ≤ 4294967295) ∧ (0 ≤ a ∧ a ≤ 4294967295) ∧ (0 ≤ p ∧ p ≤ 127) ∧ (0 ≤ ty ∧ ty ≤ 255) := by
  simp [rightC, rightB, holdsB] at h
  omega
theorem bytesC_list (t : Bool) (b tp a p ty : Int) : bytesC ⟨t, b, tp, a, p, ty⟩ = [a / 16777216 % 256, a / 65536 % 256, a / 256 % 256, a % 256, b / 16777216 % 256, b / 65536 % 256, b / 256 % 256, b % 256, tp / 16777216 % 256, tp / 65536 % 256, tp / 256 % 256, tp % 256, 0, p % 256, 0, ty % 256] := rfl
theorem bytesC_inj {t t' : Bool} {b tp a p ty b' tp' a' p' ty' : Int} (h : rightC ⟨t, b, tp, a, p, ty⟩ = true) (h' : rightC ⟨t', b', tp', a', p', ty'⟩ = true) :
    bytesC ⟨t, b, tp, a, p, ty⟩ = bytesC ⟨t', b', tp', a', p', ty'⟩ ↔ b = b' ∧ tp = tp' ∧ a = a' ∧ p = p' ∧ ty = ty' := by
  have e1 := right_bd h
  have e2 := right_bd h'
  rw [bytesC_list, bytesC_list]
  simp only [List.cons.injEq, and_true, true_and]
  constructor
  · intro g; omega
  · rintro ⟨rfl, rfl, rfl, rfl, rfl⟩; simp

theorem bytesC_dec {t t' : Bool} {b tp a p ty b' tp' a' p' ty' : Int} {B : Bool} (h : rightC ⟨t, b, tp, a, p, ty⟩ = true) (h' : rightC ⟨t', b', tp', a', p', ty'⟩ = true) (hB : decide (b = b' ∧ tp = tp' ∧ a = a' ∧ p = p' ∧ ty = ty') = B) :
    decide (bytesC ⟨t, b, tp, a, p, ty⟩ = bytesC ⟨t', b', tp', a', p', ty'⟩) = B := by
  rw [← hB, decide_eq_decide]
  exact bytesC_inj h h'
theorem bytesC_str_dec {c d : Cap} {B : Bool} (h : rightC c = true) (h' : rightC d = true) (hB : decide (bytesC c = bytesC d) = B) : ((strOf (bytesC c)).toList == (strOf (bytesC d)).toList) = B := (bytesC_str h h').trans hB
theorem quiet_str16 {o : Oper} {a : Act} {w : World} {K : Act → Prop} (x : Operand) (ho : o.op = .convert 24 9 x) (A : Option Addr) (c : Nat) (C : Cap) (hx : a.eval x = .slice A 16 c) (hr : RdB w A (bytesC C)) (k : K (a.put o.dst (.string (strOf (bytesC C))))) : o.quiet Try.prog a (Grown w) K :=
  quiet_str 24 9 5 x ho Try.underlying24 Try.underlying5 Try.underlying9 A c 16 (bytesC C) hx rfl hr (bytesC_ne _ _) k
theorem quiet_str4 {o : Oper} {a : Act} {w : World} {K : Act → Prop} (x : Operand) (ho : o.op = .convert 24 9 x) (A : Option Addr) (c : Nat) (n : Int) (hx : a.eval x = .slice A 4 c) (hr : RdB w A (four n)) (k : K (a.put o.dst (.string (strOf (four n))))) : o.quiet Try.prog a (Grown w) K :=
  quiet_str 24 9 5 x ho Try.underlying24 Try.underlying5 Try.underlying9 A c 4 (four n) hx rfl hr (fun h => by simp [four] at h) k
theorem four_byte (n : Int) : byteL (four n) := by
  intro x hx
  simp only [four, List.mem_cons, List.not_mem_nil, or_false] at hx
  rcases hx with rfl | rfl | rfl | rfl <;> omega
theorem four_str {x y : Int} (hx : 0 ≤ x ∧ x ≤ 4294967295) (hy : 0 ≤ y ∧ y ≤ 4294967295) : ((strOf (four x)).toList == (strOf (four y)).toList) = decide (x = y) := by
  rw [str_beq (four_byte x) (four_byte y), decide_eq_decide]
  exact ⟨four_inj hx hy, fun h => by rw [h]⟩
theorem RdB.fours {w : World} {q : Nat} {C : Cap} (h : RdB w (some ⟨q, 0, none⟩) (bytesC C)) : RdB w (some ⟨q, 0, none⟩) (four C.at_) ∧ RdB w (some ⟨q, 4, none⟩) (four C.base) ∧ RdB w (some ⟨q, 8, none⟩) (four C.top) := by
  obtain ⟨b', o', hA, hb, hc⟩ := h (by simp [bytesC_length])
  cases hA
  refine ⟨fun _ => ⟨q, 0, rfl, hb, fun j hj => ?_⟩, fun _ => ⟨q, 4, rfl, hb, fun j hj => ?_⟩, fun _ => ⟨q, 8, rfl, hb, fun j hj => ?_⟩⟩
  · rw [hc j (by rw [bytesC_length]; rw [four_length] at hj; omega)]
    match j, hj with
    | 0, _ => rfl
    | 1, _ => rfl
    | 2, _ => rfl
    | 3, _ => rfl
  · have := hc (4 + j) (by rw [bytesC_length]; rw [four_length] at hj; omega)
    rw [Nat.zero_add] at this
    rw [this]
    match j, hj with
    | 0, _ => rfl
    | 1, _ => rfl
    | 2, _ => rfl
    | 3, _ => rfl
  · have := hc (8 + j) (by rw [bytesC_length]; rw [four_length] at hj; omega)
    rw [Nat.zero_add] at this
    rw [this]
    match j, hj with
    | 0, _ => rfl
    | 1, _ => rfl
    | 2, _ => rfl
    | 3, _ => rfl
theorem RdB.sixteen {w : World} {q : Nat} {t : Bool} {b tp a p ty : Int} (h : RdB w (some ⟨q, 0, none⟩) (bytesC ⟨t, b, tp, a, p, ty⟩)) : w.cell? ⟨q, 0, none⟩ = some (.int .u8 (a / 16777216 % 256)) ∧ w.cell? ⟨q, 1, none⟩ = some (.int .u8 (a / 65536 % 256)) ∧ w.cell? ⟨q, 2, none⟩ = some (.int .u8 (a / 256 % 256)) ∧ w.cell? ⟨q, 3, none⟩ = some (.int .u8 (a % 256)) ∧ w.cell? ⟨q, 4, none⟩ = some (.int .u8 (b / 16777216 % 256)) ∧ w.cell? ⟨q, 5, none⟩ = some (.int .u8 (b / 65536 % 256)) ∧ w.cell? ⟨q, 6, none⟩ = some (.int .u8 (b / 256 % 256)) ∧ w.cell? ⟨q, 7, none⟩ = some (.int .u8 (b % 256)) ∧ w.cell? ⟨q, 8, none⟩ = some (.int .u8 (tp / 16777216 % 256)) ∧ w.cell? ⟨q, 9, none⟩ = some (.int .u8 (tp / 65536 % 256)) ∧ w.cell? ⟨q, 10, none⟩ = some (.int .u8 (tp / 256 % 256)) ∧ w.cell? ⟨q, 11, none⟩ = some (.int .u8 (tp % 256)) ∧ w.cell? ⟨q, 12, none⟩ = some (.int .u8 (0)) ∧ w.cell? ⟨q, 13, none⟩ = some (.int .u8 (p % 256)) ∧ w.cell? ⟨q, 14, none⟩ = some (.int .u8 (0)) ∧ w.cell? ⟨q, 15, none⟩ = some (.int .u8 (ty % 256)) := by
  obtain ⟨b', o', hA, _, hc⟩ := h (by simp [bytesC_length])
  cases hA
  exact ⟨hc 0 (by rw [bytesC_length]; omega), hc 1 (by rw [bytesC_length]; omega), hc 2 (by rw [bytesC_length]; omega), hc 3 (by rw [bytesC_length]; omega), hc 4 (by rw [bytesC_length]; omega), hc 5 (by rw [bytesC_length]; omega), hc 6 (by rw [bytesC_length]; omega), hc 7 (by rw [bytesC_length]; omega), hc 8 (by rw [bytesC_length]; omega), hc 9 (by rw [bytesC_length]; omega), hc 10 (by rw [bytesC_length]; omega), hc 11 (by rw [bytesC_length]; omega), hc 12 (by rw [bytesC_length]; omega), hc 13 (by rw [bytesC_length]; omega), hc 14 (by rw [bytesC_length]; omega), hc 15 (by rw [bytesC_length]; omega)⟩

end Go.Proofs.Ytmlginnnhlmoeaa
