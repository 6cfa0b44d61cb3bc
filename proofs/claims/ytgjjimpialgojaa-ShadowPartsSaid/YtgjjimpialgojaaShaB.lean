/- Layer 8: whether one is painted. -/
import Derived.Test.YtgjjimpialgojaaShaA
namespace Go.Proofs.Ytgjjimpialgojaa
set_option linter.unusedSimpArgs false
set_option linter.unusedVariables false
open Go.RowKit

set_option maxHeartbeats 1000000 in
theorem is_neg (p q n : Nat) (i : Int) (w : World) (P : Nat → Bool) (h : Sh w p q n P) (hno : i < 0 ∨ (n : Int) ≤ i / 16) (hib : i ≤ 9223372036854775807) :
    Calls Try.prog 15 #[.pointer (some ⟨p, 0, none⟩), .int .i64 i] w fun e w' => e = .returned (.bool false) ∧ w = w' := by
  have h0 := h.c0
  have hlp := h.ltp
  have hbd := h.bd
  by_cases hi : 0 ≤ i
  · obtain ⟨d, hd⟩ : ∃ d, i.tdiv 16 = d := ⟨_, rfl⟩
    have hd2 : d = i / 16 := by rw [← hd]; exact Int.tdiv_eq_ediv_of_nonneg hi
    have hn : ¬ d < (n : Int) := by rcases hno with h1 | h1 <;> omega
    have hdb : 0 ≤ d ∧ d ≤ 9223372036854775807 := by omega
    obtain ⟨hd0, hd1⟩ := hdb
    have hwd : wrap64 d = d := by clear hd hd2 hn h0 hlp; unfold wrap64; omega
    clear h hno hd2 hd0 hd1
    go_enter Try.func15, Try.ntmps15
    go_wp2
    go_ret
    exact ⟨rfl, rfl⟩
  · clear h hno
    go_enter Try.func15, Try.ntmps15
    go_wp2
    go_ret
    exact ⟨rfl, rfl⟩

set_option maxHeartbeats 1000000 in
theorem is_yes (p q n i j : Nat) (P : Nat → Bool) (w : World) (h : Sh w p q n P) (hi : i < n) (hji : j / 16 = i) :
    Calls Try.prog 15 #[.pointer (some ⟨p, 0, none⟩), .int .i64 (j : Int)] w fun e w' => e = .returned (.bool (P i)) ∧ w = w' := by
  have h0 := h.c0
  have hlp := h.ltp
  have hbd := h.bd
  have HH := hid h
  obtain ⟨x, hx⟩ : ∃ x : Int, (j : Int) = x := ⟨_, rfl⟩
  have hq : x.tdiv 16 = (i : Int) := by rw [Int.tdiv_eq_ediv_of_nonneg (by omega)]; omega
  have hx0 : 0 ≤ x := by omega
  have hin : (i : Int) < (n : Int) := by omega
  have hw : wrap64 (i : Int) = (i : Int) := by unfold wrap64; omega
  rw [hx]
  clear h hx hji
  go_enter Try.func15, Try.ntmps15
  go_wp2_with (go_at_call 24; (with_reducible refine Calls.mono (painted_ p q n i P _ HH.out hi) ?_); rintro e w1 ⟨rfl, rfl⟩)
  go_ret
  exact ⟨rfl, rfl⟩


end Go.Proofs.Ytgjjimpialgojaa
