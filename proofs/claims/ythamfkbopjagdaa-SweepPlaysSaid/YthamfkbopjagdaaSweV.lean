/- Layer 10: the document's Step, and where the list lies. -/
import Derived.Test.YthamfkbopjagdaaSweU
import Derived.Test.YthamfkbopjagdaaSweT
namespace Go.Proofs.Ythamfkbopjagdaa
set_option linter.unusedSimpArgs false
set_option linter.unusedVariables false
open Go.RowKit

def RStX (w W : World) (r gb gt gp s p pq n nb nt mm : Nat) (B : Nat → Int) (T D P : Nat → Bool) (g0 : Nat) (L : List Nat) (Z : Nat → Prop) (c : Nat) (rr : Bool) (e : Ending) (W' : World) : Prop :=
  ∃ (A' : Option Addr) (ca' : Nat), e = .returned (.int .i64 (c : Int)) ∧ Hid (SWR w W' r gb gt gp s p pq n nb nt mm B (stS n mm P B (T, D, g0) (L.take c)).1 (stS n mm P B (T, D, g0) (L.take c)).2.1 P rr A' ca' (L.drop c) (stS n mm P B (T, D, g0) (L.take c)).2.2) ∧ Hid (Only (Qs gb gt gp s) W W') ∧ Hid (∀ b o, A' = some ⟨b, o, none⟩ → ¬ Z b)
set_option maxRecDepth 100000 in
set_option maxHeartbeats 4000000 in
theorem rstepX_ (Z : Nat → Prop) (w W : World) (r gb gt gp s p pq n nb nt mm : Nat) (B : Nat → Int) (T D P : Nat → Bool) (runs : Bool) (A : Option Addr) (ca : Nat) (g0 : Nat) (L : List Nat) (h : SWR w W r gb gt gp s p pq n nb nt mm B T D P runs A ca L g0) (hzl : ∀ i, Z i → i < W.heap.size) (hzA : ∀ b o, A = some ⟨b, o, none⟩ → ¬ Z b) (hL : L.length ≤ 1000000) (hg : g0 ≤ 1000000000) (hB : ∀ y, 0 ≤ B y ∧ B y ≤ 255) (k : Int) :
    Calls Try.prog 25 #[.pointer (some ⟨s, 0, none⟩), .int .i64 k] W fun e W' => RStX w W r gb gt gp s p pq n nb nt mm B T D P g0 L Z (stC runs L.length k) (stR runs L.length k) e W' := by
  by_cases hn : runs = true ∧ 1 ≤ k
  · obtain ⟨rfl, hk⟩ := hn
    have hr : stC true L.length k ≤ L.length ∧ (((L.length : Nat) : Int) ≤ k ∧ stC true L.length k = L.length ∨ k ≤ ((L.length : Nat) : Int) ∧ ((stC true L.length k : Nat) : Int) = k) := by
      refine ⟨stC_le _ _ _, ?_⟩
      unfold stC
      rw [if_pos ⟨rfl, hk⟩]
      by_cases c : ((L.length : Nat) : Int) ≤ k
      · rw [if_pos c]; exact .inl ⟨c, rfl⟩
      · rw [if_neg c]; exact .inr ⟨by omega, by omega⟩
    have hR : stR true L.length k = decide (stC true L.length k < L.length) := by unfold stR; rw [if_pos ⟨rfl, hk⟩]
    rw [hR]
    refine (rstep_ w W r gb gt gp s p pq n nb nt mm B T D P A ca L g0 h (stC true L.length k) L.length k rfl hL hk hr (by omega) hB).mono ?_
    rintro e W' ⟨A', ca', rfl, h1, h2, h3⟩
    exact ⟨A', ca', rfl, h1, h2, hid (fun b o e hz => by have h4 := h3.out b o e; have h5 := hzl b hz; omega)⟩
  · have hC : stC runs L.length k = 0 := by unfold stC; rw [if_neg hn]
    have hR : stR runs L.length k = runs := by unfold stR; rw [if_neg hn]
    rw [hC, hR]
    refine (rstep_no w W r gb gt gp s p pq n nb nt mm B T D P runs A ca L g0 h k ?_).mono ?_
    · by_cases c : runs = true
      · exact .inr (by have : ¬ 1 ≤ k := fun x => hn ⟨c, x⟩; omega)
      · exact .inl (by simpa using c)
    · rintro e W' ⟨rfl, rfl⟩
      exact ⟨A, ca, rfl, hid h, hid (Only.refl _ _), hid hzA⟩

end Go.Proofs.Ythamfkbopjagdaa
