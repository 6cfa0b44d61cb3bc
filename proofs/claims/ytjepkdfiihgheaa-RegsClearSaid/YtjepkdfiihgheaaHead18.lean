/- Layer 18: the live question. -/
import Derived.Test.YtjepkdfiihgheaaRegB
import Derived.Test.YtjepkdfiihgheaaRegC
import Derived.Test.YtjepkdfiihgheaaRegD
import Derived.Test.YtjepkdfiihgheaaRegE
import Derived.Test.YtjepkdfiihgheaaRegF
import Derived.Test.YtjepkdfiihgheaaRegG
import Derived.Test.YtjepkdfiihgheaaRegH
import Derived.Test.YtjepkdfiihgheaaRegI
import Derived.Test.YtjepkdfiihgheaaSameC
import Derived.Test.YtjepkdfiihgheaaOpen
namespace Go.Proofs.Ytjepkdfiihgheaa
set_option linter.unusedSimpArgs false
set_option linter.unusedVariables false
open Go.RowKit


set_option maxRecDepth 100000 in
set_option maxHeartbeats 8000000 in
theorem head (w : World) : Calls Try.prog 7 #[] w fun e w' => e = .returned (.bool true) ∧ Ext w w' := by
  have s1 : okSet 3 ⟨true, 16, 48, 20, 3, 0⟩ = true := by decide
  have s2 : okSet 8 ⟨true, 16, 48, 20, 3, 0⟩ = false := by decide
  have s3 : okSet 3 ⟨false, 0, 0, -1, 0, 0⟩ = false := by decide
  have s4 : okPut 7 (fun _ => nullC) = false := by decide
  have g1 : getL (upd (fun _ => nullC) 3 ⟨true, 16, 48, 20, 3, 0⟩) 3 = ⟨true, 16, 48, 20, 3, 0⟩ := rfl
  have G2 := hid (show getL (clrL (upd (fun _ => nullC) 3 ⟨true, 16, 48, 20, 3, 0⟩) 2 99) 3 = nullC from rfl)
  have G3 := hid (show getL (clrL (upd (fun _ => nullC) 3 ⟨true, 16, 48, 20, 3, 0⟩) 2 99) (-1) = nullC from rfl)
  have hmk : ∀ w, (Instr.makeSlice 30 (.int .i64 7) (.int .i64 7)).run Try.prog w = .ok (.slice (some ⟨w.heap.size, 0, none⟩) 7 7) (w.alloc (.cells #[.bool false, .int .i64 0, .int .i64 0, .int .i64 0, .int .i64 0, .int .i64 0, .bool false, .int .i64 0, .int .i64 0, .int .i64 0, .int .i64 0, .int .i64 0, .bool false, .int .i64 0, .int .i64 0, .int .i64 0, .int .i64 0, .int .i64 0, .bool false, .int .i64 0, .int .i64 0, .int .i64 0, .int .i64 0, .int .i64 0, .bool false, .int .i64 0, .int .i64 0, .int .i64 0, .int .i64 0, .int .i64 0, .bool false, .int .i64 0, .int .i64 0, .int .i64 0, .int .i64 0, .int .i64 0, .bool false, .int .i64 0, .int .i64 0, .int .i64 0, .int .i64 0, .int .i64 0] 29)) := fun _ => by kernel_rfl
  go_enter Try.func7, Try.ntmps7
  go_wp2_with fail
  refine (new_ _).mono ?_
  rintro e w1 ⟨q, rfl, hq, hx1, hF0⟩
  have hqs : q < w1.heap.size := (hF0.at_ (show 0 < 8 by omega)).lt
  have hF0 := hid hF0
  have hnq0 : ¬ w1.heap.size = q := by omega
  have hnq1 : ¬ w1.heap.size + 1 = q := by omega
  have hnq2 : ¬ w1.heap.size + 2 = q := by omega
  have hnq3 : ¬ w1.heap.size + 3 = q := by omega
  go_wp2_with fail
  refine Calls.mono (set_ q _ 3 true 16 48 20 3 0 _ (Fil.keep hF0.out (by repeat (first | (with_reducible exact Keep.refl _ _) | (with_reducible refine Keep.drew ?_) | (with_reducible refine Keep.grow ?_ _) | (with_reducible refine Keep.alloc ?_ _) | (with_reducible assumption) | ((with_reducible refine Keep.turn ?_ ?_ _); rotate_left; (first | omega | (with_reducible assumption) | (simp only [World.size_alloc, grow_size, turn_size, World.size_setCell] at *; omega))) | ((with_reducible refine Keep.setCell ?_ ?_ _); rotate_left; (first | omega | (with_reducible assumption) | (simp only [World.size_alloc, grow_size, turn_size, World.size_setCell] at *; omega))))))) ?_
  rintro e w' ⟨rfl, hF1, hO1⟩
  rw [setL_yes s1] at hF1
  obtain ⟨ob1, d1, rfl⟩ := hO1.turned
  clear hO1
  have hF1 := hid hF1
  go_wp2_with fail
  refine Calls.mono (set_ q _ 8 true 16 48 20 3 0 _ (Fil.keep hF1.out (by repeat (first | (with_reducible exact Keep.refl _ _) | (with_reducible refine Keep.drew ?_) | (with_reducible refine Keep.grow ?_ _) | (with_reducible refine Keep.alloc ?_ _) | (with_reducible assumption) | ((with_reducible refine Keep.turn ?_ ?_ _); rotate_left; (first | omega | (with_reducible assumption) | (simp only [World.size_alloc, grow_size, turn_size, World.size_setCell] at *; omega))) | ((with_reducible refine Keep.setCell ?_ ?_ _); rotate_left; (first | omega | (with_reducible assumption) | (simp only [World.size_alloc, grow_size, turn_size, World.size_setCell] at *; omega))))))) ?_
  rintro e w' ⟨rfl, hF2, hO2⟩
  rw [setL_no s2] at hF2
  clear hF1
  obtain ⟨ob2, d2, rfl⟩ := hO2.turned
  clear hO2
  have hF2 := hid hF2
  go_wp2_with fail
  refine Calls.mono (set_ q _ 3 false 0 0 (-1) 0 0 _ (Fil.keep hF2.out (by repeat (first | (with_reducible exact Keep.refl _ _) | (with_reducible refine Keep.drew ?_) | (with_reducible refine Keep.grow ?_ _) | (with_reducible refine Keep.alloc ?_ _) | (with_reducible assumption) | ((with_reducible refine Keep.turn ?_ ?_ _); rotate_left; (first | omega | (with_reducible assumption) | (simp only [World.size_alloc, grow_size, turn_size, World.size_setCell] at *; omega))) | ((with_reducible refine Keep.setCell ?_ ?_ _); rotate_left; (first | omega | (with_reducible assumption) | (simp only [World.size_alloc, grow_size, turn_size, World.size_setCell] at *; omega))))))) ?_
  rintro e w' ⟨rfl, hF3, hO3⟩
  rw [setL_no s3] at hF3
  clear hF2
  obtain ⟨ob3, d3, rfl⟩ := hO3.turned
  clear hO3
  have hF3 := hid hF3
  go_wp2_with fail
  refine Calls.mono (put_ q _ _ 7 _ (fun _ => nullC) _ (Fil.keep hF3.out (by repeat (first | (with_reducible exact Keep.refl _ _) | (with_reducible refine Keep.drew ?_) | (with_reducible refine Keep.grow ?_ _) | (with_reducible refine Keep.alloc ?_ _) | (with_reducible assumption) | ((with_reducible refine Keep.turn ?_ ?_ _); rotate_left; (first | omega | (with_reducible assumption) | (simp only [World.size_alloc, grow_size, turn_size, World.size_setCell] at *; omega))) | ((with_reducible refine Keep.setCell ?_ ?_ _); rotate_left; (first | omega | (with_reducible assumption) | (simp only [World.size_alloc, grow_size, turn_size, World.size_setCell] at *; omega)))))) (by exact Caps.rd (Caps.ofAllocAt (by simp [turn_size, grow_size]) (by kernel_rfl))) (by omega)) ?_
  rintro e w' ⟨rfl, hF4, hO4⟩
  rw [putL_no s4] at hF4
  clear hF3
  obtain ⟨ob4, d4, rfl⟩ := hO4.turned
  clear hO4
  have hF4 := hid hF4
  go_wp2_with (first | (go_at_call 19; refine Calls.mono (get_ q _ _ _ (Fil.keep hF4.out (by repeat (first | (with_reducible exact Keep.refl _ _) | (with_reducible refine Keep.drew ?_) | (with_reducible refine Keep.grow ?_ _) | (with_reducible refine Keep.alloc ?_ _) | (with_reducible assumption) | ((with_reducible refine Keep.turn ?_ ?_ _); rotate_left; (first | omega | (with_reducible assumption) | (simp only [World.size_alloc, grow_size, turn_size, World.size_setCell] at *; omega))) | ((with_reducible refine Keep.setCell ?_ ?_ _); rotate_left; (first | omega | (with_reducible assumption) | (simp only [World.size_alloc, grow_size, turn_size, World.size_setCell] at *; omega))))))) ?_; rintro e w' ⟨rfl, hy⟩; obtain ⟨d, rfl⟩ := hy.grown; clear hy) | (go_at_call 21; refine Calls.mono (value_ q _ _ _ (Fil.keep hF4.out (by repeat (first | (with_reducible exact Keep.refl _ _) | (with_reducible refine Keep.drew ?_) | (with_reducible refine Keep.grow ?_ _) | (with_reducible refine Keep.alloc ?_ _) | (with_reducible assumption) | ((with_reducible refine Keep.turn ?_ ?_ _); rotate_left; (first | omega | (with_reducible assumption) | (simp only [World.size_alloc, grow_size, turn_size, World.size_setCell] at *; omega))) | ((with_reducible refine Keep.setCell ?_ ?_ _); rotate_left; (first | omega | (with_reducible assumption) | (simp only [World.size_alloc, grow_size, turn_size, World.size_setCell] at *; omega))))))) ?_; rintro e w' ⟨rfl, hy⟩; obtain ⟨d, rfl⟩ := hy.grown; clear hy))
  go_wp2_with fail
  refine Calls.mono (clear_ q _ 2 99 _ (Fil.keep hF4.out (by repeat (first | (with_reducible exact Keep.refl _ _) | (with_reducible refine Keep.drew ?_) | (with_reducible refine Keep.grow ?_ _) | (with_reducible refine Keep.alloc ?_ _) | (with_reducible assumption) | ((with_reducible refine Keep.turn ?_ ?_ _); rotate_left; (first | omega | (with_reducible assumption) | (simp only [World.size_alloc, grow_size, turn_size, World.size_setCell] at *; omega))) | ((with_reducible refine Keep.setCell ?_ ?_ _); rotate_left; (first | omega | (with_reducible assumption) | (simp only [World.size_alloc, grow_size, turn_size, World.size_setCell] at *; omega))))))) ?_
  rintro e w' ⟨⟨_, rfl⟩, hF5, hO5⟩
  obtain ⟨ob5, d5, rfl⟩ := hO5.turned
  clear hO5
  have hF5 := hid hF5
  have g2 := G2.out
  have g3 := G3.out
  go_wp2_with (first | (go_at_call 19; refine Calls.mono (get_ q _ _ _ (Fil.keep hF5.out (by repeat (first | (with_reducible exact Keep.refl _ _) | (with_reducible refine Keep.drew ?_) | (with_reducible refine Keep.grow ?_ _) | (with_reducible refine Keep.alloc ?_ _) | (with_reducible assumption) | ((with_reducible refine Keep.turn ?_ ?_ _); rotate_left; (first | omega | (with_reducible assumption) | (simp only [World.size_alloc, grow_size, turn_size, World.size_setCell] at *; omega))) | ((with_reducible refine Keep.setCell ?_ ?_ _); rotate_left; (first | omega | (with_reducible assumption) | (simp only [World.size_alloc, grow_size, turn_size, World.size_setCell] at *; omega))))))) ?_; rintro e w' ⟨rfl, hy⟩; obtain ⟨d, rfl⟩ := hy.grown; clear hy) | (go_at_call 17; refine Calls.mono (all_ q _ _ (Fil.keep hF5.out (by repeat (first | (with_reducible exact Keep.refl _ _) | (with_reducible refine Keep.drew ?_) | (with_reducible refine Keep.grow ?_ _) | (with_reducible refine Keep.alloc ?_ _) | (with_reducible assumption) | ((with_reducible refine Keep.turn ?_ ?_ _); rotate_left; (first | omega | (with_reducible assumption) | (simp only [World.size_alloc, grow_size, turn_size, World.size_setCell] at *; omega))) | ((with_reducible refine Keep.setCell ?_ ?_ _); rotate_left; (first | omega | (with_reducible assumption) | (simp only [World.size_alloc, grow_size, turn_size, World.size_setCell] at *; omega))))))) ?_; rintro e w' ⟨B, rfl, hB, hy, hC⟩; obtain ⟨d, rfl⟩ := hy.grown; clear hy hC))
  go_ret
  exact ⟨rfl, (by repeat (first | (with_reducible exact Ext.refl _) | (with_reducible refine Ext.undrew ?_) | (with_reducible refine Ext.grow ?_ _) | (with_reducible refine Ext.drew ?_) | (with_reducible refine Ext.alloc ?_ _) | (with_reducible assumption) | ((with_reducible refine Ext.turn ?_ ?_ _); rotate_left; (first | omega | (with_reducible assumption) | (simp only [World.size_alloc, grow_size, turn_size, World.size_setCell] at *; omega))) | ((with_reducible refine Ext.setCell ?_ ?_ _); rotate_left; ((try dsimp only); (first | omega | (with_reducible assumption) | (simp only [World.size_alloc, grow_size, turn_size, World.size_setCell] at *; omega))))))⟩

end Go.Proofs.Ytjepkdfiihgheaa
