/- The walk of the law PermOrder. -/
import Derived.Test.YtgjnobjoijehaaaHeadA1
import Derived.Test.YtgjnobjoijehaaaOneQ
namespace Go.Proofs.Ytgjnobjoijehaaa
set_option linter.unusedSimpArgs false
set_option linter.unusedVariables false
open Go.RowKit

namespace permOrder
set_option maxRecDepth 100000 in
set_option maxHeartbeats 16000000 in
theorem walk (a0 : Int) (a1 : Int) (a2 : Int) (w : World) (w0 : (Lit.int .u8 a0).wf = true) (w1 : (Lit.int .u8 a1).wf = true) (w2 : (Lit.int .u8 a2).wf = true) :
    Calls Try.prog 5 #[.int .u8 a0, .int .u8 a1, .int .u8 a2] w fun e w' => e = .returned (.bool true) ∧ Ext w w' := by
  obtain ⟨l0, u0⟩ := wfu8 w0
  obtain ⟨a, ha, ea⟩ := and127' l0 u0
  obtain ⟨l1, u1⟩ := wfu8 w1
  obtain ⟨b, hb, eb⟩ := and127' l1 u1
  obtain ⟨l2, u2⟩ := wfu8 w2
  obtain ⟨c, hc, ec⟩ := and127' l2 u2
  clear w0 l0 u0 w1 l1 u1 w2 l2 u2
  have raa := has_refl ha
  have rt := (has_ends ⟨a, ha⟩).1
  have rz := (has_ends ⟨a, ha⟩).2
  simp only at rt rz
  have HAN := hid fun h1 h2 => has_anti ha hb h1 h2
  have HTR := hid fun h1 h2 => has_trans ha hb hc h1 h2
  clear ha hb hc
  cases h1 : hasB (a : Int) (b : Int)
  · clear HAN HTR
    go_enter Try.func5, Try.ntmps5
    go_wp2_with (first | (go_at_call 10; refine Calls.mono (head _) ?_; rintro e wh ⟨rfl, hxh⟩; obtain ⟨dh, rfl⟩ := hxh.grown; clear hxh) | (go_at_call 15; refine (has _ _ _).mono ?_; rintro e w' ⟨rfl, rfl⟩))
    go_ret
    exact ⟨rfl, (by repeat (first | (with_reducible exact Ext.refl _) | (with_reducible refine Ext.undrew ?_) | (with_reducible refine Ext.grow ?_ _) | (with_reducible refine Ext.drew ?_) | (with_reducible refine Ext.drewN ?_ _) | (with_reducible refine Ext.alloc ?_ _) | (with_reducible assumption) | ((with_reducible refine Ext.setCell ?_ ?_ _); rotate_left; (first | exact Nat.le_refl _ | ((try dsimp only); (try simp only [World.size_alloc, grow_size, World.size_setCell]); omega)))))⟩
  cases h2 : hasB (b : Int) (a : Int) <;> cases h3 : hasB (b : Int) (c : Int)
  · clear HAN HTR
    go_enter Try.func5, Try.ntmps5
    go_wp2_with (first | (go_at_call 10; refine Calls.mono (head _) ?_; rintro e wh ⟨rfl, hxh⟩; obtain ⟨dh, rfl⟩ := hxh.grown; clear hxh) | (go_at_call 15; refine (has _ _ _).mono ?_; rintro e w' ⟨rfl, rfl⟩))
    go_ret
    exact ⟨rfl, (by repeat (first | (with_reducible exact Ext.refl _) | (with_reducible refine Ext.undrew ?_) | (with_reducible refine Ext.grow ?_ _) | (with_reducible refine Ext.drew ?_) | (with_reducible refine Ext.drewN ?_ _) | (with_reducible refine Ext.alloc ?_ _) | (with_reducible assumption) | ((with_reducible refine Ext.setCell ?_ ?_ _); rotate_left; (first | exact Nat.le_refl _ | ((try dsimp only); (try simp only [World.size_alloc, grow_size, World.size_setCell]); omega)))))⟩
  · have h4 := HTR.out h1 h3
    clear HAN HTR
    go_enter Try.func5, Try.ntmps5
    go_wp2_with (first | (go_at_call 10; refine Calls.mono (head _) ?_; rintro e wh ⟨rfl, hxh⟩; obtain ⟨dh, rfl⟩ := hxh.grown; clear hxh) | (go_at_call 15; refine (has _ _ _).mono ?_; rintro e w' ⟨rfl, rfl⟩))
    go_ret
    exact ⟨rfl, (by repeat (first | (with_reducible exact Ext.refl _) | (with_reducible refine Ext.undrew ?_) | (with_reducible refine Ext.grow ?_ _) | (with_reducible refine Ext.drew ?_) | (with_reducible refine Ext.drewN ?_ _) | (with_reducible refine Ext.alloc ?_ _) | (with_reducible assumption) | ((with_reducible refine Ext.setCell ?_ ?_ _); rotate_left; (first | exact Nat.le_refl _ | ((try dsimp only); (try simp only [World.size_alloc, grow_size, World.size_setCell]); omega)))))⟩
  · obtain rfl := HAN.out h1 h2
    clear HAN HTR
    go_enter Try.func5, Try.ntmps5
    go_wp2_with (first | (go_at_call 10; refine Calls.mono (head _) ?_; rintro e wh ⟨rfl, hxh⟩; obtain ⟨dh, rfl⟩ := hxh.grown; clear hxh) | (go_at_call 15; refine (has _ _ _).mono ?_; rintro e w' ⟨rfl, rfl⟩))
    go_ret
    exact ⟨rfl, (by repeat (first | (with_reducible exact Ext.refl _) | (with_reducible refine Ext.undrew ?_) | (with_reducible refine Ext.grow ?_ _) | (with_reducible refine Ext.drew ?_) | (with_reducible refine Ext.drewN ?_ _) | (with_reducible refine Ext.alloc ?_ _) | (with_reducible assumption) | ((with_reducible refine Ext.setCell ?_ ?_ _); rotate_left; (first | exact Nat.le_refl _ | ((try dsimp only); (try simp only [World.size_alloc, grow_size, World.size_setCell]); omega)))))⟩
  · have h4 := HTR.out h1 h3
    obtain rfl := HAN.out h1 h2
    clear HAN HTR
    go_enter Try.func5, Try.ntmps5
    go_wp2_with (first | (go_at_call 10; refine Calls.mono (head _) ?_; rintro e wh ⟨rfl, hxh⟩; obtain ⟨dh, rfl⟩ := hxh.grown; clear hxh) | (go_at_call 15; refine (has _ _ _).mono ?_; rintro e w' ⟨rfl, rfl⟩))
    go_ret
    exact ⟨rfl, (by repeat (first | (with_reducible exact Ext.refl _) | (with_reducible refine Ext.undrew ?_) | (with_reducible refine Ext.grow ?_ _) | (with_reducible refine Ext.drew ?_) | (with_reducible refine Ext.drewN ?_ _) | (with_reducible refine Ext.alloc ?_ _) | (with_reducible assumption) | ((with_reducible refine Ext.setCell ?_ ?_ _); rotate_left; (first | exact Nat.le_refl _ | ((try dsimp only); (try simp only [World.size_alloc, grow_size, World.size_setCell]); omega)))))⟩
end permOrder

end Go.Proofs.Ytgjnobjoijehaaa
