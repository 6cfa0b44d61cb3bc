/- Layer 1: where a rune that is no ASCII letter stands among the letters: nowhere. -/
import Derived.Test.YtgjnobjoijehaaaTextB
import Derived.Deep.QuietTactic
import Derived.BigQuiet
namespace Go.Proofs.Ytgjnobjoijehaaa
set_option linter.unusedSimpArgs false
set_option linter.unusedVariables false
open Go.RowKit

theorem indexByte_none {c : UInt8} : ∀ l : List UInt8, (∀ b ∈ l, b ≠ c) → Lib.indexByte l c = -1
  | [], _ => rfl
  | b :: l, h => by
    have h1 : (b == c) = false := by simpa using h b (by simp)
    have h2 := indexByte_none l (fun x hx => h x (by simp [hx]))
    simp [Lib.indexByte, h1, h2]
theorem indexByte_high {l : List UInt8} (hl : ∀ b ∈ l, b.toNat < 128) {c : UInt8} (hc : 128 ≤ c.toNat) : Lib.indexByte l c = -1 :=
  indexByte_none _ fun b hb e => by
    have := hl b hb
    subst e
    omega
theorem letters_size : letters.size = 7 := rfl

set_option maxRecDepth 100000 in
set_option maxHeartbeats 1000000 in
theorem indexErr (w : World) :
    Calls Try.prog 28 #[.string letters, .int .i32 65533] w fun e w' => e = .returned (.int .i64 (-1)) ∧ Ext w w' := by
  go_enter Try.func28, Try.ntmps28
  go_wp2
  go_loopw [] (fun wr => ∃ k, k ≤ 7 ∧ wr.heap[w.heap.size]? = some (.stringIter letters k) ∧ Below w.heap.size w wr) (fun wr => 7 - wr.iterPos w.heap.size)
  case atStart => exact ⟨0, by omega, World.iter_heap _ _ _, (Below.refl _ _).alloc (Nat.le_refl _) _⟩
  case round =>
    obtain ⟨k, hk, hit, hB⟩ := hrel
    have HP := hid (show wr.iterPos w.heap.size = k by simp [World.iterPos, hit])
    have HIT := hid hit
    by_cases hlt : k < 7
    · have hnx := next_letter (P := Try.prog) wr w.heap.size k 0 hit hlt
      have hc := letter_lt k hlt
      have HIT2 := hid (Lib.iterAt_heap wr w.heap.size letters k (k + 1) hit)
      have hB2 := Lib.below_iterAt hB (k := w.heap.size) (Nat.le_refl _) letters (k + 1)
      have hne : (((letter k).toNat : Int) == 65533) = false := by rw [beq_eq_false_iff_ne]; omega
      clear hit
      go_wp2
      go_roundw
      case rel => exact ⟨k + 1, by omega, HIT2.out, hB2⟩
      case measure => rw [HP.out]; have := HIT2.out; simp [World.iterPos, this]; omega
    · obtain rfl : k = 7 := by omega
      have hnx := Lib.run_next_end_at (P := Try.prog) wr w.heap.size letters 7 0 hit (by decide)
      clear hit
      go_wp2
      go_ret
      exact ⟨rfl, hB⟩

set_option maxRecDepth 100000 in
set_option maxHeartbeats 1000000 in
theorem indexBad (r : Int) (h0 : 128 ≤ r) (hne : (r == 65533) = false) (hv : Lib.validRune r = false) (w : World) :
    Calls Try.prog 28 #[.string letters, .int .i32 r] w fun e w' => e = .returned (.int .i64 (-1)) ∧ Ext w w' := by
  have h1 : decide (0 ≤ r) = true := by simp; omega
  have h2 : decide (r < 128) = false := by simp; omega
  go_enter Try.func28, Try.ntmps28
  go_wp2_with (go_at_call 34; refine (Try.utf8_ValidRune _ _).mono ?_; rintro e w' ⟨rfl, rfl⟩)
  go_ret
  exact ⟨rfl, Ext.refl _⟩

set_option maxRecDepth 100000 in
set_option maxHeartbeats 2000000 in
theorem indexGood (r : Int) (h0 : 128 ≤ r) (hne : (r == 65533) = false) (hv : Lib.validRune r = true) (R : ByteArray) (m : Nat) (hm : m = 1 ∨ m = 2 ∨ m = 3) (hR : R.size = m + 1) (hb : 128 ≤ (R[m]'(by omega)).toNat) 
    (hcv : ∀ w : World, (convert 21 9 (.int .i32 r)).run Try.prog w = .ok (.string R) w) (w : World) :
    Calls Try.prog 28 #[.string letters, .int .i32 r] w fun e w' => e = .returned (.int .i64 (-1)) ∧ Ext w w' := by
  have h1 : decide (0 ≤ r) = true := by simp; omega
  have h2 : decide (r < 128) = false := by simp; omega
  rcases hm with rfl | rfl | rfl
  · have hidx : ∀ w : World, (Instr.index 9 (.string letters) (.int .i64 1)).run Try.prog w = .ok (.int .u8 119) w := fun w => by kernel_rfl
    go_enter Try.func28, Try.ntmps28
    go_wp2_with (go_at_call 34; refine (Try.utf8_ValidRune _ _).mono ?_; rintro e w' ⟨rfl, rfl⟩)
    go_step3
    go_wp2
    refine wp_loop_rounds 1 ?_
    rw [rounds_succ]
    go_wp2
    go_step3
    go_wp2
    have hne1 : ((119 : Int) != ((R[1]'(by omega)).toNat : Int)) = true := by rw [bne_iff_ne]; omega
    go_quiet (fail)
    go_wp2
    obtain ⟨w2, hw2⟩ : ∃ w2, w2 = w'.drewN nq := ⟨_, rfl⟩
    have hE : Ext w' w2 := by rw [hw2]; exact ⟨rfl, rfl, rfl, Nat.le_refl _, fun _ _ => rfl⟩
    rw [← hw2]
    clear hw2
    have hlast : Lib.indexByte (List.take (letters.size - 2) (List.drop 2 letters.data.toList)) (R[1]'(by omega)) = -1 := indexByte_high (by decide) hb
    go_quiet ((go_at_call 33; exact Calls.quiet_of_same (Try.strings_IndexByte _ _ _)))
    go_wp2
    simp only [Exit.noGoto_ret, Exit.inBlock, Exit.then]
    go_ret
    exact ⟨rfl, hE.trans ((Ext.refl _).drewN _)⟩
  · have hidx : ∀ w : World, (Instr.index 9 (.string letters) (.int .i64 2)).run Try.prog w = .ok (.int .u8 120) w := fun w => by kernel_rfl
    go_enter Try.func28, Try.ntmps28
    go_wp2_with (go_at_call 34; refine (Try.utf8_ValidRune _ _).mono ?_; rintro e w' ⟨rfl, rfl⟩)
    go_step3
    go_wp2
    refine wp_loop_rounds 1 ?_
    rw [rounds_succ]
    go_wp2
    go_step3
    go_wp2
    have hne1 : ((120 : Int) != ((R[2]'(by omega)).toNat : Int)) = true := by rw [bne_iff_ne]; omega
    go_quiet (fail)
    go_wp2
    obtain ⟨w2, hw2⟩ : ∃ w2, w2 = w'.drewN nq := ⟨_, rfl⟩
    have hE : Ext w' w2 := by rw [hw2]; exact ⟨rfl, rfl, rfl, Nat.le_refl _, fun _ _ => rfl⟩
    rw [← hw2]
    clear hw2
    have hlast : Lib.indexByte (List.take (letters.size - 3) (List.drop 3 letters.data.toList)) (R[2]'(by omega)) = -1 := indexByte_high (by decide) hb
    go_quiet ((go_at_call 33; exact Calls.quiet_of_same (Try.strings_IndexByte _ _ _)))
    go_wp2
    simp only [Exit.noGoto_ret, Exit.inBlock, Exit.then]
    go_ret
    exact ⟨rfl, hE.trans ((Ext.refl _).drewN _)⟩
  · have hidx : ∀ w : World, (Instr.index 9 (.string letters) (.int .i64 3)).run Try.prog w = .ok (.int .u8 108) w := fun w => by kernel_rfl
    go_enter Try.func28, Try.ntmps28
    go_wp2_with (go_at_call 34; refine (Try.utf8_ValidRune _ _).mono ?_; rintro e w' ⟨rfl, rfl⟩)
    go_step3
    go_wp2
    refine wp_loop_rounds 1 ?_
    rw [rounds_succ]
    go_wp2
    go_step3
    go_wp2
    have hne1 : ((108 : Int) != ((R[3]'(by omega)).toNat : Int)) = true := by rw [bne_iff_ne]; omega
    go_quiet (fail)
    go_wp2
    obtain ⟨w2, hw2⟩ : ∃ w2, w2 = w'.drewN nq := ⟨_, rfl⟩
    have hE : Ext w' w2 := by rw [hw2]; exact ⟨rfl, rfl, rfl, Nat.le_refl _, fun _ _ => rfl⟩
    rw [← hw2]
    clear hw2
    have hlast : Lib.indexByte (List.take (letters.size - 4) (List.drop 4 letters.data.toList)) (R[3]'(by omega)) = -1 := indexByte_high (by decide) hb
    go_quiet ((go_at_call 33; exact Calls.quiet_of_same (Try.strings_IndexByte _ _ _)))
    go_wp2
    simp only [Exit.noGoto_ret, Exit.inBlock, Exit.then]
    go_ret
    exact ⟨rfl, hE.trans ((Ext.refl _).drewN _)⟩
end Go.Proofs.Ytgjnobjoijehaaa
