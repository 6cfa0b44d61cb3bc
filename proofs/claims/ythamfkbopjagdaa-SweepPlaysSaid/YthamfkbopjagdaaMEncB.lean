/- MEncB: EncG -/
import Derived.Test.YthamfkbopjagdaaMEncA
namespace Go.Proofs.Ythamfkbopjagdaa
set_option maxRecDepth 100000
set_option linter.unusedSimpArgs false
set_option linter.unusedVariables false
open Go.RowKit

set_option maxHeartbeats 400000 in
theorem unfour0 (b o ca : Nat) (x0 x1 x2 x3 x4 x5 x6 x7 x8 x9 x10 x11 x12 x13 x14 x15 : Int) (w : World) (hr : RdB w (some ⟨b, o, none⟩) [x0, x1, x2, x3, x4, x5, x6, x7, x8, x9, x10, x11, x12, x13, x14, x15]) (l0 : 0 ≤ x0) (u0 : x0 ≤ 255) (l1 : 0 ≤ x1) (u1 : x1 ≤ 255) (l2 : 0 ≤ x2) (u2 : x2 ≤ 255) (l3 : 0 ≤ x3) (u3 : x3 ≤ 255) (l4 : 0 ≤ x4) (u4 : x4 ≤ 255) (l5 : 0 ≤ x5) (u5 : x5 ≤ 255) (l6 : 0 ≤ x6) (u6 : x6 ≤ 255) (l7 : 0 ≤ x7) (u7 : x7 ≤ 255) (l8 : 0 ≤ x8) (u8 : x8 ≤ 255) (l9 : 0 ≤ x9) (u9 : x9 ≤ 255) (l10 : 0 ≤ x10) (u10 : x10 ≤ 255) (l11 : 0 ≤ x11) (u11 : x11 ≤ 255) (l12 : 0 ≤ x12) (u12 : x12 ≤ 255) (l13 : 0 ≤ x13) (u13 : x13 ≤ 255) (l14 : 0 ≤ x14) (u14 : x14 ≤ 255) (l15 : 0 ≤ x15) (u15 : x15 ≤ 255) :
    Calls Try.prog 85 #[.slice (some ⟨b, o, none⟩) 4 ca] w fun e w' => e = .returned (.int .i64 (num4 x0 x1 x2 x3)) ∧ Ext w w' := by
  have s := hr.six
  exact unfour_ b (o) ca x0 x1 x2 x3 w (hr.lt (by simp)) ⟨s.1, s.2.1, s.2.2.1, s.2.2.2.1⟩ ⟨l0, u0, l1, u1, l2, u2, l3, u3⟩

set_option maxHeartbeats 400000 in
theorem unfour4 (b o ca : Nat) (x0 x1 x2 x3 x4 x5 x6 x7 x8 x9 x10 x11 x12 x13 x14 x15 : Int) (w : World) (hr : RdB w (some ⟨b, o, none⟩) [x0, x1, x2, x3, x4, x5, x6, x7, x8, x9, x10, x11, x12, x13, x14, x15]) (l0 : 0 ≤ x0) (u0 : x0 ≤ 255) (l1 : 0 ≤ x1) (u1 : x1 ≤ 255) (l2 : 0 ≤ x2) (u2 : x2 ≤ 255) (l3 : 0 ≤ x3) (u3 : x3 ≤ 255) (l4 : 0 ≤ x4) (u4 : x4 ≤ 255) (l5 : 0 ≤ x5) (u5 : x5 ≤ 255) (l6 : 0 ≤ x6) (u6 : x6 ≤ 255) (l7 : 0 ≤ x7) (u7 : x7 ≤ 255) (l8 : 0 ≤ x8) (u8 : x8 ≤ 255) (l9 : 0 ≤ x9) (u9 : x9 ≤ 255) (l10 : 0 ≤ x10) (u10 : x10 ≤ 255) (l11 : 0 ≤ x11) (u11 : x11 ≤ 255) (l12 : 0 ≤ x12) (u12 : x12 ≤ 255) (l13 : 0 ≤ x13) (u13 : x13 ≤ 255) (l14 : 0 ≤ x14) (u14 : x14 ≤ 255) (l15 : 0 ≤ x15) (u15 : x15 ≤ 255) :
    Calls Try.prog 85 #[.slice (some ⟨b, o + 4, none⟩) 4 ca] w fun e w' => e = .returned (.int .i64 (num4 x4 x5 x6 x7)) ∧ Ext w w' := by
  have s := hr.six
  exact unfour_ b (o + 4) ca x4 x5 x6 x7 w (hr.lt (by simp)) ⟨s.2.2.2.2.1, s.2.2.2.2.2.1, s.2.2.2.2.2.2.1, s.2.2.2.2.2.2.2.1⟩ ⟨l4, u4, l5, u5, l6, u6, l7, u7⟩

set_option maxHeartbeats 400000 in
theorem unfour8 (b o ca : Nat) (x0 x1 x2 x3 x4 x5 x6 x7 x8 x9 x10 x11 x12 x13 x14 x15 : Int) (w : World) (hr : RdB w (some ⟨b, o, none⟩) [x0, x1, x2, x3, x4, x5, x6, x7, x8, x9, x10, x11, x12, x13, x14, x15]) (l0 : 0 ≤ x0) (u0 : x0 ≤ 255) (l1 : 0 ≤ x1) (u1 : x1 ≤ 255) (l2 : 0 ≤ x2) (u2 : x2 ≤ 255) (l3 : 0 ≤ x3) (u3 : x3 ≤ 255) (l4 : 0 ≤ x4) (u4 : x4 ≤ 255) (l5 : 0 ≤ x5) (u5 : x5 ≤ 255) (l6 : 0 ≤ x6) (u6 : x6 ≤ 255) (l7 : 0 ≤ x7) (u7 : x7 ≤ 255) (l8 : 0 ≤ x8) (u8 : x8 ≤ 255) (l9 : 0 ≤ x9) (u9 : x9 ≤ 255) (l10 : 0 ≤ x10) (u10 : x10 ≤ 255) (l11 : 0 ≤ x11) (u11 : x11 ≤ 255) (l12 : 0 ≤ x12) (u12 : x12 ≤ 255) (l13 : 0 ≤ x13) (u13 : x13 ≤ 255) (l14 : 0 ≤ x14) (u14 : x14 ≤ 255) (l15 : 0 ≤ x15) (u15 : x15 ≤ 255) :
    Calls Try.prog 85 #[.slice (some ⟨b, o + 8, none⟩) 4 ca] w fun e w' => e = .returned (.int .i64 (num4 x8 x9 x10 x11)) ∧ Ext w w' := by
  have s := hr.six
  exact unfour_ b (o + 8) ca x8 x9 x10 x11 w (hr.lt (by simp)) ⟨s.2.2.2.2.2.2.2.2.1, s.2.2.2.2.2.2.2.2.2.1, s.2.2.2.2.2.2.2.2.2.2.1, s.2.2.2.2.2.2.2.2.2.2.2.1⟩ ⟨l8, u8, l9, u9, l10, u10, l11, u11⟩

set_option maxHeartbeats 800000 in
theorem rget_no (A : Option Addr) (n ca : Nat) (tag : Bool) (w : World) (hn : ¬ (n : Int) = 16) :
    Calls Try.prog 83 #[.slice A n ca, .bool tag] w fun e w' => e = .returned (.tuple #[.agg #[.bool false, .int .i64 0, .int .i64 0, .int .i64 0, .int .i64 0, .int .i64 0], .bool false]) ∧ Ext w w' := by
  go_enter Try.func83, Try.ntmps83
  go_wp2
  refine bodyPost_ret (v := .tuple #[.agg #[.bool false, .int .i64 0, .int .i64 0, .int .i64 0, .int .i64 0, .int .i64 0], .bool false]) (by simp [results, Try.results83, go_sem]) rfl ⟨rfl, (by repeat (first | (with_reducible exact Ext.refl _) | (with_reducible refine Ext.undrew ?_) | (with_reducible refine Ext.grow ?_ _) | (with_reducible refine Ext.drew ?_) | (with_reducible refine Ext.drewN ?_ _) | (with_reducible refine Ext.alloc ?_ _) | (with_reducible assumption) | ((with_reducible refine Ext.setCell ?_ ?_ _); rotate_left; (first | exact Nat.le_refl _ | ((try dsimp only); (try simp only [World.size_alloc, grow_size, World.size_setCell]); omega)))))⟩

set_option maxRecDepth 100000 in
set_option maxHeartbeats 8000000 in
theorem rget_yes (b o ca : Nat) (x0 x1 x2 x3 x4 x5 x6 x7 x8 x9 x10 x11 x12 x13 x14 x15 : Int) (tag : Bool) (w : World) (hr : RdB w (some ⟨b, o, none⟩) [x0, x1, x2, x3, x4, x5, x6, x7, x8, x9, x10, x11, x12, x13, x14, x15]) (hca : 16 ≤ ca) (hcm : ca ≤ maxLen) (l0 : 0 ≤ x0) (u0 : x0 ≤ 255) (l1 : 0 ≤ x1) (u1 : x1 ≤ 255) (l2 : 0 ≤ x2) (u2 : x2 ≤ 255) (l3 : 0 ≤ x3) (u3 : x3 ≤ 255) (l4 : 0 ≤ x4) (u4 : x4 ≤ 255) (l5 : 0 ≤ x5) (u5 : x5 ≤ 255) (l6 : 0 ≤ x6) (u6 : x6 ≤ 255) (l7 : 0 ≤ x7) (u7 : x7 ≤ 255) (l8 : 0 ≤ x8) (u8 : x8 ≤ 255) (l9 : 0 ≤ x9) (u9 : x9 ≤ 255) (l10 : 0 ≤ x10) (u10 : x10 ≤ 255) (l11 : 0 ≤ x11) (u11 : x11 ≤ 255) (l12 : 0 ≤ x12) (u12 : x12 ≤ 255) (l13 : 0 ≤ x13) (u13 : x13 ≤ 255) (l14 : 0 ≤ x14) (u14 : x14 ≤ 255) (l15 : 0 ≤ x15) (u15 : x15 ≤ 255) :
    Calls Try.prog 83 #[.slice (some ⟨b, o, none⟩) 16 ca, .bool tag] w fun e w' => e = .returned (.tuple #[.agg #[.bool (getL [x0, x1, x2, x3, x4, x5, x6, x7, x8, x9, x10, x11, x12, x13, x14, x15] tag).tag, .int .i64 (getL [x0, x1, x2, x3, x4, x5, x6, x7, x8, x9, x10, x11, x12, x13, x14, x15] tag).base, .int .i64 (getL [x0, x1, x2, x3, x4, x5, x6, x7, x8, x9, x10, x11, x12, x13, x14, x15] tag).top, .int .i64 (getL [x0, x1, x2, x3, x4, x5, x6, x7, x8, x9, x10, x11, x12, x13, x14, x15] tag).at_, .int .i64 (getL [x0, x1, x2, x3, x4, x5, x6, x7, x8, x9, x10, x11, x12, x13, x14, x15] tag).perms, .int .i64 (getL [x0, x1, x2, x3, x4, x5, x6, x7, x8, x9, x10, x11, x12, x13, x14, x15] tag).type], .bool true]) ∧ Ext w w' := by
  have hb := hr.lt (by simp)
  obtain ⟨TG, htg⟩ : ∃ b, rightC ⟨true, num4 x4 x5 x6 x7, num4 x8 x9 x10 x11, num4 x0 x1 x2 x3, x13 % 128, x15⟩ = b := ⟨_, rfl⟩
  obtain ⟨D12, hD12⟩ : ∃ b, (x12 == 0) = b := ⟨_, rfl⟩
  obtain ⟨D14, hD14⟩ : ∃ b, (x14 == 0) = b := ⟨_, rfl⟩
  obtain ⟨D13, hD13⟩ : ∃ b, decide (x13 < 128) = b := ⟨_, rfl⟩
  have e : getL [x0, x1, x2, x3, x4, x5, x6, x7, x8, x9, x10, x11, x12, x13, x14, x15] tag = ⟨tag && ((D12 && D14 && D13) && TG), num4 x4 x5 x6 x7, num4 x8 x9 x10 x11, num4 x0 x1 x2 x3, x13 % 128, x15⟩ := by
    unfold getL tagOf
    rw [bare_cap]
    simp only [htg]
    have ew : wholeL [x0, x1, x2, x3, x4, x5, x6, x7, x8, x9, x10, x11, x12, x13, x14, x15] = (D12 && D14 && D13) := by
      rw [← hD12, ← hD14, ← hD13]
      show (decide (x12 = 0) && decide (x14 = 0) && decide (x13 ≤ 127)) = _
      rw [Bool.eq_iff_iff]
      simp
      omega
    rw [ew]
  have HD12 := hid hD12
  have HD13 := hid hD13
  have HD14 := hid hD14
  clear hD12 hD13 hD14
  rw [e]
  clear e
  go_enter Try.func83, Try.ntmps83
  go_wp2
  have f1 : Hid (Ext w (w.alloc (.cells #[.bool false, .int .i64 0, .int .i64 0, .int .i64 0, .int .i64 0, .int .i64 0] 24))) := hid (by repeat (first | (with_reducible exact Ext.refl _) | (with_reducible refine Ext.undrew ?_) | (with_reducible refine Ext.grow ?_ _) | (with_reducible refine Ext.drew ?_) | (with_reducible refine Ext.drewN ?_ _) | (with_reducible refine Ext.alloc ?_ _) | (with_reducible assumption) | ((with_reducible refine Ext.setCell ?_ ?_ _); rotate_left; (first | exact Nat.le_refl _ | ((try dsimp only); (try simp only [World.size_alloc, grow_size, World.size_setCell]); omega)))))
  have f2 : RdB (w.alloc (.cells #[.bool false, .int .i64 0, .int .i64 0, .int .i64 0, .int .i64 0, .int .i64 0] 24)) (some ⟨b, o, none⟩) [x0, x1, x2, x3, x4, x5, x6, x7, x8, x9, x10, x11, x12, x13, x14, x15] := hr.ext (by repeat (first | (with_reducible exact Ext.refl _) | (with_reducible refine Ext.undrew ?_) | (with_reducible refine Ext.grow ?_ _) | (with_reducible refine Ext.drew ?_) | (with_reducible refine Ext.drewN ?_ _) | (with_reducible refine Ext.alloc ?_ _) | (with_reducible assumption) | ((with_reducible refine Ext.setCell ?_ ?_ _); rotate_left; (first | exact Nat.le_refl _ | ((try dsimp only); (try simp only [World.size_alloc, grow_size, World.size_setCell]); omega)))))
  have f3 : (w.alloc (.cells #[.bool false, .int .i64 0, .int .i64 0, .int .i64 0, .int .i64 0, .int .i64 0] 24)).cell? ⟨w.heap.size, 0, none⟩ = some (.bool false) ∧ (w.alloc (.cells #[.bool false, .int .i64 0, .int .i64 0, .int .i64 0, .int .i64 0, .int .i64 0] 24)).frozen? ⟨w.heap.size, 0, none⟩ = false ∧ (w.alloc (.cells #[.bool false, .int .i64 0, .int .i64 0, .int .i64 0, .int .i64 0, .int .i64 0] 24)).cell? ⟨w.heap.size, 1, none⟩ = some (.int .i64 0) ∧ (w.alloc (.cells #[.bool false, .int .i64 0, .int .i64 0, .int .i64 0, .int .i64 0, .int .i64 0] 24)).frozen? ⟨w.heap.size, 1, none⟩ = false ∧ (w.alloc (.cells #[.bool false, .int .i64 0, .int .i64 0, .int .i64 0, .int .i64 0, .int .i64 0] 24)).cell? ⟨w.heap.size, 2, none⟩ = some (.int .i64 0) ∧ (w.alloc (.cells #[.bool false, .int .i64 0, .int .i64 0, .int .i64 0, .int .i64 0, .int .i64 0] 24)).frozen? ⟨w.heap.size, 2, none⟩ = false ∧ (w.alloc (.cells #[.bool false, .int .i64 0, .int .i64 0, .int .i64 0, .int .i64 0, .int .i64 0] 24)).cell? ⟨w.heap.size, 3, none⟩ = some (.int .i64 0) ∧ (w.alloc (.cells #[.bool false, .int .i64 0, .int .i64 0, .int .i64 0, .int .i64 0, .int .i64 0] 24)).frozen? ⟨w.heap.size, 3, none⟩ = false ∧ (w.alloc (.cells #[.bool false, .int .i64 0, .int .i64 0, .int .i64 0, .int .i64 0, .int .i64 0] 24)).cell? ⟨w.heap.size, 4, none⟩ = some (.int .i64 0) ∧ (w.alloc (.cells #[.bool false, .int .i64 0, .int .i64 0, .int .i64 0, .int .i64 0, .int .i64 0] 24)).frozen? ⟨w.heap.size, 4, none⟩ = false ∧ (w.alloc (.cells #[.bool false, .int .i64 0, .int .i64 0, .int .i64 0, .int .i64 0, .int .i64 0] 24)).cell? ⟨w.heap.size, 5, none⟩ = some (.int .i64 0) ∧ (w.alloc (.cells #[.bool false, .int .i64 0, .int .i64 0, .int .i64 0, .int .i64 0, .int .i64 0] 24)).frozen? ⟨w.heap.size, 5, none⟩ = false := by simp [go_sem]
  have f4 : (w.alloc (.cells #[.bool false, .int .i64 0, .int .i64 0, .int .i64 0, .int .i64 0, .int .i64 0] 24)).heap.size = w.heap.size + 1 := by simp
  generalize (w.alloc (.cells #[.bool false, .int .i64 0, .int .i64 0, .int .i64 0, .int .i64 0, .int .i64 0] 24)) = W at f1 f2 f3 f4 ⊢
  obtain ⟨c0, z0, c1, z1, c2, z2, c3, z3, c4, z4, c5, z5⟩ := f3
  have hq : w.heap.size < W.heap.size := by omega
  have hbW : b < W.heap.size := by omega
  obtain ⟨k0, k1, k2, k3, k4, k5, k6, k7, k8, k9, k10, k11, k12, k13, k14, k15⟩ := f2.six
  have K12 := hid k12
  have K14 := hid k14
  have HR := hid f2
  have hbn : ¬ b = w.heap.size := by omega
  clear k0 k1 k2 k3 k4 k5 k6 k7 k8 k9 k10 k11 k12 k14 hr f2 f4 hb
  go_cut [6] (fun s6 wx => ∃ g : Nat, s6 = .pointer (some ⟨g, 0, none⟩) ∧ W.heap.size ≤ g ∧ g < wx.heap.size ∧ Hid (Ext W wx) ∧ wx.cell? ⟨g, 0, none⟩ = some (.bool false) ∧ wx.frozen? ⟨g, 0, none⟩ = false ∧ wx.cell? ⟨g, 1, none⟩ = some (.int .i64 (num4 x4 x5 x6 x7)) ∧ wx.frozen? ⟨g, 1, none⟩ = false ∧ wx.cell? ⟨g, 2, none⟩ = some (.int .i64 (num4 x8 x9 x10 x11)) ∧ wx.frozen? ⟨g, 2, none⟩ = false ∧ wx.cell? ⟨g, 3, none⟩ = some (.int .i64 (num4 x0 x1 x2 x3)) ∧ wx.frozen? ⟨g, 3, none⟩ = false ∧ wx.cell? ⟨g, 4, none⟩ = some (.int .i64 (x13 % 128)) ∧ wx.frozen? ⟨g, 4, none⟩ = false ∧ wx.cell? ⟨g, 5, none⟩ = some (.int .i64 x15) ∧ wx.frozen? ⟨g, 5, none⟩ = false)
  case first =>
    refine wp_region_step (.rd 0 (.rd 1 (.rd 3 (.rd 4 (.rd 6 (.rd 7 (.rd 9 (.rd 10 (.rd 11 (.rd 12 (.rd 13 (.rd 14 (.rd 15 (.rd 16 (.rd 17 (.br 2 (.br 5 (.br 8 (.rd 18 (.ac 19 (.ac 20 .done))) 19 (.ac 8 (.rd 18 (.ac 20 .done)))) 19 (.ac 5 (.ac 8 (.rd 18 (.ac 20 .done))))) 19 (.ac 2 (.ac 5 (.ac 8 (.rd 18 (.ac 20 .done))))))))))))))))))))) (by kernel_rfl) (by kernel_rfl) (fun _ _ d _ _ h => by cases d <;> exact h) (by simp only [Ord.map, nthOp, List.append]; rfl) ?_
    intro d0
    repeat' (first | (refine step_read (by rfl) (fun K hK => ?_); go_big_quiet_op; refine hK _ ?_; clear hK K) | (refine step_act (by rfl) (fun K hK => ?_); go_wp2_with (first | (go_at_call 85; with_reducible refine Calls.mono (unfour4 b o _ x0 x1 x2 x3 x4 x5 x6 x7 x8 x9 x10 x11 x12 x13 x14 x15 _ (HR.out.ext (by repeat (first | (with_reducible exact Ext.refl _) | (with_reducible refine Ext.undrew ?_) | (with_reducible refine Ext.grow ?_ _) | (with_reducible refine Ext.drew ?_) | (with_reducible refine Ext.drewN ?_ _) | (with_reducible refine Ext.alloc ?_ _) | (with_reducible assumption) | ((with_reducible refine Ext.setCell ?_ ?_ _); rotate_left; (first | exact Nat.le_refl _ | ((try dsimp only); (try simp only [World.size_alloc, grow_size, World.size_setCell]); omega)))))) l0 u0 l1 u1 l2 u2 l3 u3 l4 u4 l5 u5 l6 u6 l7 u7 l8 u8 l9 u9 l10 u10 l11 u11 l12 u12 l13 u13 l14 u14 l15 u15) ?_; rintro e w1 ⟨rfl, hy⟩; obtain ⟨d, rfl⟩ := hy.grown; clear hy) | (go_at_call 85; with_reducible refine Calls.mono (unfour8 b o _ x0 x1 x2 x3 x4 x5 x6 x7 x8 x9 x10 x11 x12 x13 x14 x15 _ (HR.out.ext (by repeat (first | (with_reducible exact Ext.refl _) | (with_reducible refine Ext.undrew ?_) | (with_reducible refine Ext.grow ?_ _) | (with_reducible refine Ext.drew ?_) | (with_reducible refine Ext.drewN ?_ _) | (with_reducible refine Ext.alloc ?_ _) | (with_reducible assumption) | ((with_reducible refine Ext.setCell ?_ ?_ _); rotate_left; (first | exact Nat.le_refl _ | ((try dsimp only); (try simp only [World.size_alloc, grow_size, World.size_setCell]); omega)))))) l0 u0 l1 u1 l2 u2 l3 u3 l4 u4 l5 u5 l6 u6 l7 u7 l8 u8 l9 u9 l10 u10 l11 u11 l12 u12 l13 u13 l14 u14 l15 u15) ?_; rintro e w1 ⟨rfl, hy⟩; obtain ⟨d, rfl⟩ := hy.grown; clear hy) | (go_at_call 85; with_reducible refine Calls.mono (unfour0 b o _ x0 x1 x2 x3 x4 x5 x6 x7 x8 x9 x10 x11 x12 x13 x14 x15 _ (HR.out.ext (by repeat (first | (with_reducible exact Ext.refl _) | (with_reducible refine Ext.undrew ?_) | (with_reducible refine Ext.grow ?_ _) | (with_reducible refine Ext.drew ?_) | (with_reducible refine Ext.drewN ?_ _) | (with_reducible refine Ext.alloc ?_ _) | (with_reducible assumption) | ((with_reducible refine Ext.setCell ?_ ?_ _); rotate_left; (first | exact Nat.le_refl _ | ((try dsimp only); (try simp only [World.size_alloc, grow_size, World.size_setCell]); omega)))))) l0 u0 l1 u1 l2 u2 l3 u3 l4 u4 l5 u5 l6 u6 l7 u7 l8 u8 l9 u9 l10 u10 l11 u11 l12 u12 l13 u13 l14 u14 l15 u15) ?_; rintro e w1 ⟨rfl, hy⟩; obtain ⟨d, rfl⟩ := hy.grown; clear hy)); refine ⟨_, Ext.refl _, (by repeat (first | (with_reducible exact Ext.refl _) | (with_reducible refine Ext.undrew ?_) | (with_reducible refine Ext.grow ?_ _) | (with_reducible refine Ext.drew ?_) | (with_reducible refine Ext.drewN ?_ _) | (with_reducible refine Ext.alloc ?_ _) | (with_reducible assumption) | ((with_reducible refine Ext.setCell ?_ ?_ _); rotate_left; (first | exact Nat.le_refl _ | ((try dsimp only); (try simp only [World.size_alloc, grow_size, World.size_setCell]); omega))))), ?_⟩) | refine step_br ?_ ?_)
    all_goals refine step_nil ?_
    all_goals (go_wp2_with fail; go_meet; exact ⟨_, rfl, by simp [go_sem], by simp [go_sem], hid (by repeat (first | (with_reducible exact Ext.refl _) | (with_reducible refine Ext.undrew ?_) | (with_reducible refine Ext.grow ?_ _) | (with_reducible refine Ext.drew ?_) | (with_reducible refine Ext.drewN ?_ _) | (with_reducible refine Ext.alloc ?_ _) | (with_reducible assumption) | ((with_reducible refine Ext.setCell ?_ ?_ _); rotate_left; (first | exact Nat.le_refl _ | ((try dsimp only); (try simp only [World.size_alloc, grow_size, World.size_setCell]); omega))))), by simp [go_sem], by simp [go_sem], by simp [go_sem], by simp [go_sem], by simp [go_sem], by simp [go_sem], by simp [go_sem], by simp [go_sem], by simp [go_sem], by simp [go_sem], by simp [go_sem], by simp [go_sem]⟩)
  case rest =>
    obtain ⟨g, rfl, hg, hg2, hxW, e0, y0, e1, y1, e2, y2, e3, y3, e4, y4, e5, y5⟩ := hcut
    have k12 := (hxW.out.cells b (o + 12) hbW).trans K12.out
    have k14 := (hxW.out.cells b (o + 14) hbW).trans K14.out
    have m13 := (hxW.out.cells b (o + 13) hbW).trans k13
    have hbc : b < wc.heap.size := Nat.lt_of_lt_of_le hbW hxW.out.size
    have g0 := (hxW.out.cells w.heap.size 0 hq).trans c0
    have v0 := (hxW.out.frozens w.heap.size 0 hq).trans z0
    have g1 := (hxW.out.cells w.heap.size 1 hq).trans c1
    have v1 := (hxW.out.frozens w.heap.size 1 hq).trans z1
    have g2 := (hxW.out.cells w.heap.size 2 hq).trans c2
    have v2 := (hxW.out.frozens w.heap.size 2 hq).trans z2
    have g3 := (hxW.out.cells w.heap.size 3 hq).trans c3
    have v3 := (hxW.out.frozens w.heap.size 3 hq).trans z3
    have g4 := (hxW.out.cells w.heap.size 4 hq).trans c4
    have v4 := (hxW.out.frozens w.heap.size 4 hq).trans z4
    have g5 := (hxW.out.cells w.heap.size 5 hq).trans c5
    have v5 := (hxW.out.frozens w.heap.size 5 hq).trans z5
    have hx : Ext w wc := Ext.trans f1.out hxW.out
    have hqc : w.heap.size < wc.heap.size := Nat.lt_of_lt_of_le hq hxW.out.size
    have hn1 : ¬ g = w.heap.size := by omega
    have hn2 : ¬ w.heap.size = g := by omega
    have hn3 : ¬ g = b := by omega
    have hn4 : ¬ b = g := by omega
    have hwg : w.heap.size ≤ g := by omega
    clear c0 c1 c2 c3 c4 c5 z0 z1 z2 z3 z4 z5 f1 hxW HR K12 K14 k13 k15 hbW hq hg
    have h12 := HD12.out
    have h13 := HD13.out
    have h14 := HD14.out
    clear HD12 HD13 HD14
    (cases tag)
    any_goals (cases D12)
    any_goals (cases D14)
    any_goals (cases D13)
    any_goals (cases TG)
    all_goals go_wp2_with (go_at_call 53; refine (rcapRight _ _ _ _ _ _ _).mono ?_; rintro e w1 ⟨rfl, hy⟩; obtain ⟨d, rfl⟩ := hy.grown; clear hy)
    all_goals exact bodyPost_ret (v := .tuple #[.agg #[.bool _, .int .i64 (num4 x4 x5 x6 x7), .int .i64 (num4 x8 x9 x10 x11), .int .i64 (num4 x0 x1 x2 x3), .int .i64 (x13 % 128), .int .i64 x15], .bool true]) (by simp [results, Try.results83, go_sem, hqc, g0, g1, g2, g3, g4, g5]) rfl ⟨rfl, (by repeat (first | (with_reducible exact Ext.refl _) | (with_reducible refine Ext.undrew ?_) | (with_reducible refine Ext.grow ?_ _) | (with_reducible refine Ext.drew ?_) | (with_reducible refine Ext.drewN ?_ _) | (with_reducible refine Ext.alloc ?_ _) | (with_reducible assumption) | ((with_reducible refine Ext.setCell ?_ ?_ _); rotate_left; (first | exact Nat.le_refl _ | ((try dsimp only); (try simp only [World.size_alloc, grow_size, World.size_setCell]); omega)))))⟩

end Go.Proofs.Ythamfkbopjagdaa
