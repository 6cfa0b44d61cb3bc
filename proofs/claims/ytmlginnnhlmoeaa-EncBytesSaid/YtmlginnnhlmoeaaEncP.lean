/- Layer 3: bytes of numbers of eight bytes. -/
import Derived.Test.YtmlginnnhlmoeaaEncN
import Derived.Test.YtmlginnnhlmoeaaEncB
import Derived.Test.YtmlginnnhlmoeaaHead03
namespace Go.Proofs.Ytmlginnnhlmoeaa
set_option linter.unusedSimpArgs false
set_option linter.unusedVariables false
open Go.RowKit


def bt (a : Int) : Nat → Int
  | 0 => a / 72057594037927936 % 256
  | 1 => a / 281474976710656 % 256
  | 2 => a / 1099511627776 % 256
  | 3 => a / 4294967296 % 256
  | 4 => a / 16777216 % 256
  | 5 => a / 65536 % 256
  | 6 => a / 256 % 256
  | 7 => a % 256
  | _ => 0
def btL (a : Int) (k : Nat) : List Int := (List.range k).map (bt a)
theorem btL_succ (a : Int) (k : Nat) : btL a (k + 1) = btL a k ++ [bt a k] := by simp [btL, List.range_succ]
theorem btL_length (a : Int) (k : Nat) : (btL a k).length = k := by simp [btL]
theorem bt_bd (a : Int) (k : Nat) : 0 ≤ bt a k ∧ bt a k ≤ 255 := by
  unfold bt
  split <;> omega
theorem btL_8 (a : Int) : btL a 8 = [bt a 0, bt a 1, bt a 2, bt a 3, bt a 4, bt a 5, bt a 6, bt a 7] := rfl
theorem num4_right {a b c d : Int} (ha : 0 ≤ a ∧ a ≤ 255) (hb : 0 ≤ b ∧ b ≤ 255) (hc : 0 ≤ c ∧ c ≤ 255) (hd : 0 ≤ d ∧ d ≤ 255) : four (num4 a b c d) = [a, b, c, d] := by
  unfold four num4
  simp only [List.cons.injEq, and_true]
  omega
theorem getL_facts {x0 x1 x2 x3 x4 x5 x6 x7 x8 x9 x10 x11 x12 x13 x14 x15 : Int} (l0 : 0 ≤ x0) (u0 : x0 ≤ 255) (l1 : 0 ≤ x1) (u1 : x1 ≤ 255) (l2 : 0 ≤ x2) (u2 : x2 ≤ 255) (l3 : 0 ≤ x3) (u3 : x3 ≤ 255) (l4 : 0 ≤ x4) (u4 : x4 ≤ 255) (l5 : 0 ≤ x5) (u5 : x5 ≤ 255) (l6 : 0 ≤ x6) (u6 : x6 ≤ 255) (l7 : 0 ≤ x7) (u7 : x7 ≤ 255) (l8 : 0 ≤ x8) (u8 : x8 ≤ 255) (l9 : 0 ≤ x9) (u9 : x9 ≤ 255) (l10 : 0 ≤ x10) (u10 : x10 ≤ 255) (l11 : 0 ≤ x11) (u11 : x11 ≤ 255) (l12 : 0 ≤ x12) (u12 : x12 ≤ 255) (l13 : 0 ≤ x13) (u13 : x13 ≤ 255) (l14 : 0 ≤ x14) (u14 : x14 ≤ 255) (l15 : 0 ≤ x15) (u15 : x15 ≤ 255) (tag : Bool) : rightC (getL [x0, x1, x2, x3, x4, x5, x6, x7, x8, x9, x10, x11, x12, x13, x14, x15] tag) = true ∧ bytesC (getL [x0, x1, x2, x3, x4, x5, x6, x7, x8, x9, x10, x11, x12, x13, x14, x15] tag) = [x0, x1, x2, x3, x4, x5, x6, x7, x8, x9, x10, x11, 0, x13 % 128, 0, x15] ∧ ((getL [x0, x1, x2, x3, x4, x5, x6, x7, x8, x9, x10, x11, x12, x13, x14, x15] tag).tag = true → tag = true ∧ x12 = 0 ∧ x14 = 0 ∧ x13 ≤ 127) := by
  have n1 := num4_bd (a := x4) (b := x5) (c := x6) (d := x7) ⟨l4, u4⟩ ⟨l5, u5⟩ ⟨l6, u6⟩ ⟨l7, u7⟩
  have n2 := num4_bd (a := x8) (b := x9) (c := x10) (d := x11) ⟨l8, u8⟩ ⟨l9, u9⟩ ⟨l10, u10⟩ ⟨l11, u11⟩
  have n3 := num4_bd (a := x0) (b := x1) (c := x2) (d := x3) ⟨l0, u0⟩ ⟨l1, u1⟩ ⟨l2, u2⟩ ⟨l3, u3⟩
  refine ⟨?_, ?_, ?_⟩
  · cases ht : tagOf [x0, x1, x2, x3, x4, x5, x6, x7, x8, x9, x10, x11, x12, x13, x14, x15] tag with
    | true =>
      have : getL [x0, x1, x2, x3, x4, x5, x6, x7, x8, x9, x10, x11, x12, x13, x14, x15] tag = { bareC [x0, x1, x2, x3, x4, x5, x6, x7, x8, x9, x10, x11, x12, x13, x14, x15] with tag := true } := by unfold getL; rw [ht]
      rw [this]
      unfold tagOf at ht
      simp only [Bool.and_eq_true] at ht
      exact ht.2.2
    | false =>
      have : getL [x0, x1, x2, x3, x4, x5, x6, x7, x8, x9, x10, x11, x12, x13, x14, x15] tag = bareC [x0, x1, x2, x3, x4, x5, x6, x7, x8, x9, x10, x11, x12, x13, x14, x15] := by unfold getL; rw [ht]; rfl
      rw [this, bare_cap]
      generalize num4 x4 x5 x6 x7 = m1 at n1 ⊢
      generalize num4 x8 x9 x10 x11 = m2 at n2 ⊢
      generalize num4 x0 x1 x2 x3 = m3 at n3 ⊢
      simp [rightC, rightB, holdsB]
      omega
  · have : bytesC (getL [x0, x1, x2, x3, x4, x5, x6, x7, x8, x9, x10, x11, x12, x13, x14, x15] tag) = four (num4 x0 x1 x2 x3) ++ (four (num4 x4 x5 x6 x7) ++ four (num4 x8 x9 x10 x11)) ++ [0, x13 % 128 % 256, 0, x15 % 256] := rfl
    rw [this, num4_right ⟨l0, u0⟩ ⟨l1, u1⟩ ⟨l2, u2⟩ ⟨l3, u3⟩, num4_right ⟨l4, u4⟩ ⟨l5, u5⟩ ⟨l6, u6⟩ ⟨l7, u7⟩, num4_right ⟨l8, u8⟩ ⟨l9, u9⟩ ⟨l10, u10⟩ ⟨l11, u11⟩]
    rw [show x13 % 128 % 256 = x13 % 128 by omega, show x15 % 256 = x15 by omega]
    rfl
  · intro ht
    have ht : tagOf [x0, x1, x2, x3, x4, x5, x6, x7, x8, x9, x10, x11, x12, x13, x14, x15] tag = true := ht
    unfold tagOf at ht
    simp only [Bool.and_eq_true] at ht
    obtain ⟨h1, h2, _⟩ := ht
    have h2 : (decide (x12 = 0) && decide (x14 = 0) && decide (x13 ≤ 127)) = true := h2
    simp at h2
    exact ⟨h1, h2.1.1, h2.1.2, h2.2⟩
theorem andu8_all : ∀ n : Fin 256, bits .and .u8 (n.val : Int) 127 = (n.val : Int) % 128 := by decide +kernel
theorem andu8 {n : Int} (h0 : 0 ≤ n) (h1 : n ≤ 255) : bits .and .u8 n 127 = n % 128 := by
  have := andu8_all ⟨n.toNat, by omega⟩
  simpa [show ((n.toNat : Nat) : Int) = n by omega] using this
theorem RdB.cellsE {w : World} {q : Nat} {l : List Int} (h : RdB w (some ⟨q, 0, none⟩) l) (h0 : 0 < l.length) : q < w.heap.size ∧ ∀ j (hj : j < l.length), w.cell? ⟨q, j, none⟩ = some (.int .u8 l[j]) := by
  obtain ⟨b', o', hA, hb, hc⟩ := h h0
  cases hA
  exact ⟨hb, fun j hj => by have := hc j hj; rwa [Nat.zero_add] at this⟩

end Go.Proofs.Ytmlginnnhlmoeaa
