/- Layer 20: numbers of bytes. -/
import Derived.Test.YtemeckdjkjnieaaAluD
import Derived.Laws.BitsLemmas
namespace Go.Proofs.Ytemeckdjkjnieaa
set_option linter.unusedSimpArgs false
set_option linter.unusedVariables false
open Go.RowKit


theorem wraps_i64 (n : Int) (h0 : 0 ≤ n) (h1 : n < 2 ^ 63) : IntKind.i64.wrap n = n := by rw [IntKind.wrap_i64]; omega
theorem or256 {x y : Int} (h0 : 0 ≤ x) (h1 : x % 256 = 0) (h2 : x < 1099511627776) (h3 : 0 ≤ y) (h4 : y < 256) : bits .or .i64 x y = x + y :=
  bits_join .i64 63 (by decide) wraps_i64 8 x y h0 h1 (by omega) h3 h4 (by omega)
theorem or0 {y : Int} (h3 : 0 ≤ y) (h4 : y < 256) : bits .or .i64 0 y = y := by
  rw [or256 (by omega) (by omega) (by omega) h3 h4]; omega

set_option maxRecDepth 100000 in
set_option maxHeartbeats 2000000 in
theorem number0 (b o c  : Nat)  (w : World) (hk : 0 ≤ c) (hcc : c ≤ 9223372036854775807) (hc : True) :
    Calls Try.prog 16 #[.slice (some ⟨b, o, none⟩) 0 c] w fun e w' => e = .returned (.int .i64 (0)) ∧ w = w' := by
  obtain _ := hc
  go_enter Try.func16, Try.ntmps16
  go_wp2
  refine wp_loop_rounds 1 ?_
  rw [rounds_succ]
  go_wp2
  go_ret
  exact ⟨rfl, rfl⟩

set_option maxRecDepth 100000 in
set_option maxHeartbeats 2000000 in
theorem rnumber0 (b o c  : Nat)  (w : World) (hk : 0 ≤ c) (hcc : c ≤ 9223372036854775807) (hc : True) :
    Calls Try.prog 17 #[.slice (some ⟨b, o, none⟩) 0 c] w fun e w' => e = .returned (.int .i64 (0)) ∧ w = w' := by
  obtain _ := hc
  go_enter Try.func17, Try.ntmps17
  go_wp2
  refine wp_loop_rounds 1 ?_
  rw [rounds_succ]
  go_wp2
  go_ret
  refine ⟨?_, rfl⟩
  first | rfl | (simp; done) | (simp; omega)

set_option maxRecDepth 100000 in
set_option maxHeartbeats 2000000 in
theorem number1 (b o c  : Nat) (x0 : Int) (w : World) (hk : 1 ≤ c) (hcc : c ≤ 9223372036854775807) (hc : w.cell? ⟨b, o, none⟩ = some (.int .u8 x0) ∧ 0 ≤ x0 ∧ x0 ≤ 255) :
    Calls Try.prog 16 #[.slice (some ⟨b, o, none⟩) 1 c] w fun e w' => e = .returned (.int .i64 (x0)) ∧ w = w' := by
  obtain ⟨c0, a0, b0⟩ := hc
  have q0 : bits .or .i64 0 x0 = x0 := or0 (by omega) (by omega)
  go_enter Try.func16, Try.ntmps16
  go_wp2
  refine wp_loop_rounds 2 ?_
  rw [rounds_succ]
  go_wp2
  rw [rounds_succ]
  go_wp2
  go_ret
  exact ⟨rfl, rfl⟩

set_option maxRecDepth 100000 in
set_option maxHeartbeats 2000000 in
theorem rnumber1 (b o c  : Nat) (x0 : Int) (w : World) (hk : 1 ≤ c) (hcc : c ≤ 9223372036854775807) (hc : w.cell? ⟨b, o, none⟩ = some (.int .u8 x0) ∧ 0 ≤ x0 ∧ x0 ≤ 255) :
    Calls Try.prog 17 #[.slice (some ⟨b, o, none⟩) 1 c] w fun e w' => e = .returned (.int .i64 (x0)) ∧ w = w' := by
  obtain ⟨c0, a0, b0⟩ := hc
  go_enter Try.func17, Try.ntmps17
  go_wp2
  refine wp_loop_rounds 2 ?_
  rw [rounds_succ]
  go_wp2
  rw [rounds_succ]
  go_wp2
  go_ret
  refine ⟨?_, rfl⟩
  first | rfl | (simp; done) | (simp; omega)

set_option maxRecDepth 100000 in
set_option maxHeartbeats 2000000 in
theorem number2 (b o c  : Nat) (x0 x1 : Int) (w : World) (hk : 2 ≤ c) (hcc : c ≤ 9223372036854775807) (hc : w.cell? ⟨b, o, none⟩ = some (.int .u8 x0) ∧ 0 ≤ x0 ∧ x0 ≤ 255 ∧ w.cell? ⟨b, o + 1, none⟩ = some (.int .u8 x1) ∧ 0 ≤ x1 ∧ x1 ≤ 255) :
    Calls Try.prog 16 #[.slice (some ⟨b, o, none⟩) 2 c] w fun e w' => e = .returned (.int .i64 (x0 * 256 + x1)) ∧ w = w' := by
  obtain ⟨c0, a0, b0, c1, a1, b1⟩ := hc
  have q0 : bits .or .i64 0 x0 = x0 := or0 (by omega) (by omega)
  have q1 : bits .or .i64 (x0 * 256) x1 = x0 * 256 + x1 := or256 (by omega) (by omega) (by omega) (by omega) (by omega)
  go_enter Try.func16, Try.ntmps16
  go_wp2
  refine wp_loop_rounds 3 ?_
  rw [rounds_succ]
  go_wp2
  rw [rounds_succ]
  go_wp2
  rw [rounds_succ]
  go_wp2
  go_ret
  exact ⟨rfl, rfl⟩

set_option maxRecDepth 100000 in
set_option maxHeartbeats 2000000 in
theorem rnumber2 (b o c  : Nat) (x0 x1 : Int) (w : World) (hk : 2 ≤ c) (hcc : c ≤ 9223372036854775807) (hc : w.cell? ⟨b, o, none⟩ = some (.int .u8 x0) ∧ 0 ≤ x0 ∧ x0 ≤ 255 ∧ w.cell? ⟨b, o + 1, none⟩ = some (.int .u8 x1) ∧ 0 ≤ x1 ∧ x1 ≤ 255) :
    Calls Try.prog 17 #[.slice (some ⟨b, o, none⟩) 2 c] w fun e w' => e = .returned (.int .i64 (x0 * 256 + x1)) ∧ w = w' := by
  obtain ⟨c0, a0, b0, c1, a1, b1⟩ := hc
  go_enter Try.func17, Try.ntmps17
  go_wp2
  refine wp_loop_rounds 3 ?_
  rw [rounds_succ]
  go_wp2
  rw [rounds_succ]
  go_wp2
  rw [rounds_succ]
  go_wp2
  go_ret
  refine ⟨?_, rfl⟩
  first | rfl | (simp; done) | (simp; omega)

set_option maxRecDepth 100000 in
set_option maxHeartbeats 2000000 in
theorem number3 (b o c  : Nat) (x0 x1 x2 : Int) (w : World) (hk : 3 ≤ c) (hcc : c ≤ 9223372036854775807) (hc : w.cell? ⟨b, o, none⟩ = some (.int .u8 x0) ∧ 0 ≤ x0 ∧ x0 ≤ 255 ∧ w.cell? ⟨b, o + 1, none⟩ = some (.int .u8 x1) ∧ 0 ≤ x1 ∧ x1 ≤ 255 ∧ w.cell? ⟨b, o + 2, none⟩ = some (.int .u8 x2) ∧ 0 ≤ x2 ∧ x2 ≤ 255) :
    Calls Try.prog 16 #[.slice (some ⟨b, o, none⟩) 3 c] w fun e w' => e = .returned (.int .i64 ((x0 * 256 + x1) * 256 + x2)) ∧ w = w' := by
  obtain ⟨c0, a0, b0, c1, a1, b1, c2, a2, b2⟩ := hc
  have q0 : bits .or .i64 0 x0 = x0 := or0 (by omega) (by omega)
  have q1 : bits .or .i64 (x0 * 256) x1 = x0 * 256 + x1 := or256 (by omega) (by omega) (by omega) (by omega) (by omega)
  have q2 : bits .or .i64 ((x0 * 256 + x1) * 256) x2 = (x0 * 256 + x1) * 256 + x2 := or256 (by omega) (by omega) (by omega) (by omega) (by omega)
  go_enter Try.func16, Try.ntmps16
  go_wp2
  refine wp_loop_rounds 4 ?_
  rw [rounds_succ]
  go_wp2
  rw [rounds_succ]
  go_wp2
  rw [rounds_succ]
  go_wp2
  rw [rounds_succ]
  go_wp2
  go_ret
  exact ⟨rfl, rfl⟩

set_option maxRecDepth 100000 in
set_option maxHeartbeats 2000000 in
theorem rnumber3 (b o c  : Nat) (x0 x1 x2 : Int) (w : World) (hk : 3 ≤ c) (hcc : c ≤ 9223372036854775807) (hc : w.cell? ⟨b, o, none⟩ = some (.int .u8 x0) ∧ 0 ≤ x0 ∧ x0 ≤ 255 ∧ w.cell? ⟨b, o + 1, none⟩ = some (.int .u8 x1) ∧ 0 ≤ x1 ∧ x1 ≤ 255 ∧ w.cell? ⟨b, o + 2, none⟩ = some (.int .u8 x2) ∧ 0 ≤ x2 ∧ x2 ≤ 255) :
    Calls Try.prog 17 #[.slice (some ⟨b, o, none⟩) 3 c] w fun e w' => e = .returned (.int .i64 ((x0 * 256 + x1) * 256 + x2)) ∧ w = w' := by
  obtain ⟨c0, a0, b0, c1, a1, b1, c2, a2, b2⟩ := hc
  go_enter Try.func17, Try.ntmps17
  go_wp2
  refine wp_loop_rounds 4 ?_
  rw [rounds_succ]
  go_wp2
  rw [rounds_succ]
  go_wp2
  rw [rounds_succ]
  go_wp2
  rw [rounds_succ]
  go_wp2
  go_ret
  refine ⟨?_, rfl⟩
  first | rfl | (simp; done) | (simp; omega)

set_option maxRecDepth 100000 in
set_option maxHeartbeats 2000000 in
theorem number4 (b o c m : Nat) (x0 x1 x2 x3 : Int) (w : World) (hk : (m + 4) ≤ c) (hcc : c ≤ 9223372036854775807) (hc : w.cell? ⟨b, o + m, none⟩ = some (.int .u8 x0) ∧ 0 ≤ x0 ∧ x0 ≤ 255 ∧ w.cell? ⟨b, o + m + 1, none⟩ = some (.int .u8 x1) ∧ 0 ≤ x1 ∧ x1 ≤ 255 ∧ w.cell? ⟨b, o + m + 2, none⟩ = some (.int .u8 x2) ∧ 0 ≤ x2 ∧ x2 ≤ 255 ∧ w.cell? ⟨b, o + m + 3, none⟩ = some (.int .u8 x3) ∧ 0 ≤ x3 ∧ x3 ≤ 255) :
    Calls Try.prog 16 #[.slice (some ⟨b, o, none⟩) (m + 4) c] w fun e w' => e = .returned (.int .i64 (((x0 * 256 + x1) * 256 + x2) * 256 + x3)) ∧ w = w' := by
  obtain ⟨c0, a0, b0, c1, a1, b1, c2, a2, b2, c3, a3, b3⟩ := hc
  have q0 : bits .or .i64 0 x0 = x0 := or0 (by omega) (by omega)
  have q1 : bits .or .i64 (x0 * 256) x1 = x0 * 256 + x1 := or256 (by omega) (by omega) (by omega) (by omega) (by omega)
  have q2 : bits .or .i64 ((x0 * 256 + x1) * 256) x2 = (x0 * 256 + x1) * 256 + x2 := or256 (by omega) (by omega) (by omega) (by omega) (by omega)
  have q3 : bits .or .i64 (((x0 * 256 + x1) * 256 + x2) * 256) x3 = ((x0 * 256 + x1) * 256 + x2) * 256 + x3 := or256 (by omega) (by omega) (by omega) (by omega) (by omega)
  go_enter Try.func16, Try.ntmps16
  go_wp2
  refine wp_loop_rounds 5 ?_
  rw [rounds_succ]
  go_wp2
  rw [rounds_succ]
  go_wp2
  rw [rounds_succ]
  go_wp2
  rw [rounds_succ]
  go_wp2
  rw [rounds_succ]
  go_wp2
  go_ret
  exact ⟨rfl, rfl⟩

set_option maxRecDepth 100000 in
set_option maxHeartbeats 2000000 in
theorem rnumber4 (b o c m : Nat) (x0 x1 x2 x3 : Int) (w : World) (hk : (m + 4) ≤ c) (hcc : c ≤ 9223372036854775807) (hc : w.cell? ⟨b, o + m, none⟩ = some (.int .u8 x0) ∧ 0 ≤ x0 ∧ x0 ≤ 255 ∧ w.cell? ⟨b, o + m + 1, none⟩ = some (.int .u8 x1) ∧ 0 ≤ x1 ∧ x1 ≤ 255 ∧ w.cell? ⟨b, o + m + 2, none⟩ = some (.int .u8 x2) ∧ 0 ≤ x2 ∧ x2 ≤ 255 ∧ w.cell? ⟨b, o + m + 3, none⟩ = some (.int .u8 x3) ∧ 0 ≤ x3 ∧ x3 ≤ 255) :
    Calls Try.prog 17 #[.slice (some ⟨b, o, none⟩) (m + 4) c] w fun e w' => e = .returned (.int .i64 (((x0 * 256 + x1) * 256 + x2) * 256 + x3)) ∧ w = w' := by
  obtain ⟨c0, a0, b0, c1, a1, b1, c2, a2, b2, c3, a3, b3⟩ := hc
  have e1 : w.cell? ⟨b, o + (m + 1), none⟩ = some (.int .u8 x1) := by rw [← Nat.add_assoc]; exact c1
  have e2 : w.cell? ⟨b, o + (m + 2), none⟩ = some (.int .u8 x2) := by rw [← Nat.add_assoc]; exact c2
  have e3 : w.cell? ⟨b, o + (m + 3), none⟩ = some (.int .u8 x3) := by rw [← Nat.add_assoc]; exact c3
  rcases Nat.eq_zero_or_pos m with hm | hm
  · subst hm
    clear e1 e2 e3
    simp only [Nat.add_zero, Nat.zero_add] at c0 c1 c2 c3 ⊢
    go_enter Try.func17, Try.ntmps17
    go_wp2
    refine wp_loop_rounds 5 ?_
    rw [rounds_succ]
    go_wp2
    rw [rounds_succ]
    go_wp2
    rw [rounds_succ]
    go_wp2
    rw [rounds_succ]
    go_wp2
    rw [rounds_succ]
    go_wp2
    go_ret
    refine ⟨?_, rfl⟩
    first | rfl | (simp; done) | (simp; omega)
  · go_enter Try.func17, Try.ntmps17
    go_wp2
    refine wp_loop_rounds 5 ?_
    rw [rounds_succ]
    go_wp2
    rw [rounds_succ]
    go_wp2
    rw [rounds_succ]
    go_wp2
    rw [rounds_succ]
    go_wp2
    rw [rounds_succ]
    go_wp2
    go_ret
    refine ⟨?_, rfl⟩
    first | rfl | (simp; done) | (simp; omega)

set_option maxRecDepth 100000 in
set_option maxHeartbeats 2000000 in
theorem number0g (a : Addr) (c : Nat) (w : World) (hcc : c ≤ 9223372036854775807) :
    Calls Try.prog 16 #[.slice (some a) 0 c] w fun e w' => e = .returned (.int .i64 0) ∧ w = w' := by
  have haz : a.add 0 = a := by simp [Addr.add]
  go_enter Try.func16, Try.ntmps16
  go_wp2
  refine wp_loop_rounds 1 ?_
  rw [rounds_succ]
  go_wp2
  go_ret
  exact ⟨rfl, rfl⟩

set_option maxRecDepth 100000 in
set_option maxHeartbeats 2000000 in
theorem rnumber0g (a : Addr) (c : Nat) (w : World) (hcc : c ≤ 9223372036854775807) :
    Calls Try.prog 17 #[.slice (some a) 0 c] w fun e w' => e = .returned (.int .i64 0) ∧ w = w' := by
  have haz : a.add 0 = a := by simp [Addr.add]
  go_enter Try.func17, Try.ntmps17
  go_wp2
  refine wp_loop_rounds 1 ?_
  rw [rounds_succ]
  go_wp2
  go_ret
  exact ⟨rfl, rfl⟩

set_option maxRecDepth 100000 in
set_option maxHeartbeats 2000000 in
theorem numberN  (w : World) :
    Calls Try.prog 16 #[.slice none 0 0] w fun e w' => e = .returned (.int .i64 0) ∧ w = w' := by
  go_enter Try.func16, Try.ntmps16
  go_wp2
  refine wp_loop_rounds 1 ?_
  rw [rounds_succ]
  go_wp2
  go_ret
  exact ⟨rfl, rfl⟩

set_option maxRecDepth 100000 in
set_option maxHeartbeats 2000000 in
theorem rnumberN  (w : World) :
    Calls Try.prog 17 #[.slice none 0 0] w fun e w' => e = .returned (.int .i64 0) ∧ w = w' := by
  go_enter Try.func17, Try.ntmps17
  go_wp2
  refine wp_loop_rounds 1 ?_
  rw [rounds_succ]
  go_wp2
  go_ret
  exact ⟨rfl, rfl⟩


end Go.Proofs.Ytemeckdjkjnieaa
