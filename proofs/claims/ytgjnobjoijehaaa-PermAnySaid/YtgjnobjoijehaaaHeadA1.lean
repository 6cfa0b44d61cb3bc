/- Layer 1: the live question. -/
import Derived.Test.YtgjnobjoijehaaaOneS
namespace Go.Proofs.Ytgjnobjoijehaaa
set_option linter.unusedSimpArgs false
set_option linter.unusedVariables false
open Go.RowKit


set_option maxRecDepth 100000 in
set_option maxHeartbeats 8000000 in
theorem head (w : World) : Calls Try.prog 10 #[] w fun e w' => e = .returned (.bool true) ∧ Ext w w' := by
  have P1 := hid (show parseV ⟨#[114, 119, 108]⟩ = .tuple #[.int .i64 11, .bool true] from parse_yes (by omega) (by decide +kernel))
  have P2 := hid (show parseV ⟨#[119, 114]⟩ = .tuple #[.int .i64 0, .bool false] from parse_none (by decide +kernel))
  have P3 := hid (show parseV ⟨#[]⟩ = .tuple #[.int .i64 0, .bool false] from parse_none (by decide +kernel))
  have T1 := hid (show textB 11 = [114, 119, 108] by decide +kernel)
  have T2 := hid (show textB 0 = [45] by decide +kernel)
  have T3 := hid (show textB 128 = [] by decide +kernel)
  have O1 : ofL [1, 2, 200, 8] 0 = 11 := by decide +kernel
  have H1 : hasB 11 3 = true := by decide +kernel
  have H2 : hasB 3 11 = false := by decide +kernel
  have M1 : manyB 11 = 3 := by decide +kernel
  go_enter Try.func10, Try.ntmps10
  go_wp2_with fail
  refine Calls.mono (parse_ ⟨#[114, 119, 108]⟩ _) ?_
  rintro e w1 ⟨rfl, hy⟩
  obtain ⟨d1, rfl⟩ := hy.grown
  clear hy
  rw [P1.out]
  go_wp2_with fail
  refine Calls.mono (parse_ ⟨#[119, 114]⟩ _) ?_
  rintro e w2 ⟨rfl, hy⟩
  obtain ⟨d2, rfl⟩ := hy.grown
  clear hy
  rw [P2.out]
  go_wp2_with fail
  refine Calls.mono (parse_ ⟨#[]⟩ _) ?_
  rintro e w3 ⟨rfl, hy⟩
  obtain ⟨d3, rfl⟩ := hy.grown
  clear hy
  rw [P3.out]
  go_wp2_with fail
  refine Calls.mono (text 11 _) ?_
  rintro e w4 ⟨rfl, hy⟩
  obtain ⟨d4, rfl⟩ := hy.grown
  clear hy
  rw [T1.out]
  go_wp2_with fail
  refine Calls.mono (text 0 _) ?_
  rintro e w5 ⟨rfl, hy⟩
  obtain ⟨d5, rfl⟩ := hy.grown
  clear hy
  rw [T2.out]
  go_wp2_with fail
  refine Calls.mono (text 128 _) ?_
  rintro e w6 ⟨rfl, hy⟩
  obtain ⟨d6, rfl⟩ := hy.grown
  clear hy
  rw [T3.out]
  go_wp2_with (first | (go_at_call 21; (with_reducible refine (of_four _ _ _ _ _ _ (by simp only [World.size_alloc, grow_size])).mono ?_); rintro e w' ⟨rfl, rfl⟩) | (go_at_call 15; refine (has _ _ _).mono ?_; rintro e w' ⟨rfl, rfl⟩) | (go_at_call 19; refine (many _ _).mono ?_; rintro e w' ⟨rfl, rfl⟩))
  go_ret
  exact ⟨rfl, (by repeat (first | (with_reducible exact Ext.refl _) | (with_reducible refine Ext.undrew ?_) | (with_reducible refine Ext.grow ?_ _) | (with_reducible refine Ext.drew ?_) | (with_reducible refine Ext.drewN ?_ _) | (with_reducible refine Ext.alloc ?_ _) | (with_reducible assumption) | ((with_reducible refine Ext.setCell ?_ ?_ _); rotate_left; (first | exact Nat.le_refl _ | ((try dsimp only); (try simp only [World.size_alloc, grow_size, World.size_setCell]); omega)))))⟩

end Go.Proofs.Ytgjnobjoijehaaa
