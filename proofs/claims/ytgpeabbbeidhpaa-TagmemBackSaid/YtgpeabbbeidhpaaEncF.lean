/- Layer 3: what stands in sixteen bytes. -/
import Derived.Test.YtgpeabbbeidhpaaEncE
import Derived.Deep.DeepCutAuto
namespace Go.Proofs.Ytgpeabbbeidhpaa
set_option linter.unusedSimpArgs false
set_option linter.unusedVariables false
open Go.RowKit


theorem arrayAt16 (b o c : Nat) (w : World) : (Instr.arrayAt 61 (.slice (some ⟨b, o, none⟩) 16 c)).run Try.prog w = .ok (.pointer (some ⟨b, o, none⟩)) w := by kernel_rfl
attribute [local go_sem] arrayAt16
theorem RdB.six {w : World} {b o : Nat} (x0 x1 x2 x3 x4 x5 x6 x7 x8 x9 x10 x11 x12 x13 x14 x15 : Int) (h : RdB w (some ⟨b, o, none⟩) [x0, x1, x2, x3, x4, x5, x6, x7, x8, x9, x10, x11, x12, x13, x14, x15]) : w.cell? ⟨b, o, none⟩ = some (.int .u8 x0) ∧ w.cell? ⟨b, o + 1, none⟩ = some (.int .u8 x1) ∧ w.cell? ⟨b, o + 2, none⟩ = some (.int .u8 x2) ∧ w.cell? ⟨b, o + 3, none⟩ = some (.int .u8 x3) ∧ w.cell? ⟨b, o + 4, none⟩ = some (.int .u8 x4) ∧ w.cell? ⟨b, o + 5, none⟩ = some (.int .u8 x5) ∧ w.cell? ⟨b, o + 6, none⟩ = some (.int .u8 x6) ∧ w.cell? ⟨b, o + 7, none⟩ = some (.int .u8 x7) ∧ w.cell? ⟨b, o + 8, none⟩ = some (.int .u8 x8) ∧ w.cell? ⟨b, o + 9, none⟩ = some (.int .u8 x9) ∧ w.cell? ⟨b, o + 10, none⟩ = some (.int .u8 x10) ∧ w.cell? ⟨b, o + 11, none⟩ = some (.int .u8 x11) ∧ w.cell? ⟨b, o + 12, none⟩ = some (.int .u8 x12) ∧ w.cell? ⟨b, o + 13, none⟩ = some (.int .u8 x13) ∧ w.cell? ⟨b, o + 14, none⟩ = some (.int .u8 x14) ∧ w.cell? ⟨b, o + 15, none⟩ = some (.int .u8 x15) := by
  obtain ⟨b', o', hA, _, hc⟩ := h (by simp)
  cases hA
  exact ⟨hc 0 (by simp), hc 1 (by simp), hc 2 (by simp), hc 3 (by simp), hc 4 (by simp), hc 5 (by simp), hc 6 (by simp), hc 7 (by simp), hc 8 (by simp), hc 9 (by simp), hc 10 (by simp), hc 11 (by simp), hc 12 (by simp), hc 13 (by simp), hc 14 (by simp), hc 15 (by simp)⟩
theorem bare_cap (x0 x1 x2 x3 x4 x5 x6 x7 x8 x9 x10 x11 x12 x13 x14 x15 : Int) : bareC [x0, x1, x2, x3, x4, x5, x6, x7, x8, x9, x10, x11, x12, x13, x14, x15] = ⟨false, num4 x4 x5 x6 x7, num4 x8 x9 x10 x11, num4 x0 x1 x2 x3, x13 % 128, x15⟩ := rfl
set_option maxHeartbeats 800000 in
theorem get_no (A : Option Addr) (n ca : Nat) (tag : Bool) (w : World) (hn : ¬ (n : Int) = 16) :
    Calls Try.prog 42 #[.slice A n ca, .bool tag] w fun e w' => e = .returned (.tuple #[.agg #[.bool false, .int .i64 0, .int .i64 0, .int .i64 0, .int .i64 0, .int .i64 0], .bool false]) ∧ Ext w w' := by
  go_enter Try.func42, Try.ntmps42
  go_wp2
  refine bodyPost_ret (v := .tuple #[.agg #[.bool false, .int .i64 0, .int .i64 0, .int .i64 0, .int .i64 0, .int .i64 0], .bool false]) (by simp [results, Try.results42, go_sem]) rfl ⟨rfl, (by repeat (first | (with_reducible exact Ext.refl _) | (with_reducible refine Ext.undrew ?_) | (with_reducible refine Ext.grow ?_ _) | (with_reducible refine Ext.drew ?_) | (with_reducible refine Ext.drewN ?_ _) | (with_reducible refine Ext.alloc ?_ _) | (with_reducible assumption) | ((with_reducible refine Ext.setCell ?_ ?_ _); rotate_left; (first | exact Nat.le_refl _ | ((try dsimp only); (try simp only [World.size_alloc, grow_size, World.size_setCell]); omega)))))⟩

set_option maxRecDepth 100000 in
set_option maxHeartbeats 4000000 in
theorem get_yes (b o ca : Nat) (x0 x1 x2 x3 x4 x5 x6 x7 x8 x9 x10 x11 x12 x13 x14 x15 : Int) (tag : Bool) (w : World) (hr : RdB w (some ⟨b, o, none⟩) [x0, x1, x2, x3, x4, x5, x6, x7, x8, x9, x10, x11, x12, x13, x14, x15]) (hca : 16 ≤ ca) (hcm : ca ≤ maxLen) (l0 : 0 ≤ x0) (u0 : x0 ≤ 255) (l1 : 0 ≤ x1) (u1 : x1 ≤ 255) (l2 : 0 ≤ x2) (u2 : x2 ≤ 255) (l3 : 0 ≤ x3) (u3 : x3 ≤ 255) (l4 : 0 ≤ x4) (u4 : x4 ≤ 255) (l5 : 0 ≤ x5) (u5 : x5 ≤ 255) (l6 : 0 ≤ x6) (u6 : x6 ≤ 255) (l7 : 0 ≤ x7) (u7 : x7 ≤ 255) (l8 : 0 ≤ x8) (u8 : x8 ≤ 255) (l9 : 0 ≤ x9) (u9 : x9 ≤ 255) (l10 : 0 ≤ x10) (u10 : x10 ≤ 255) (l11 : 0 ≤ x11) (u11 : x11 ≤ 255) (l12 : 0 ≤ x12) (u12 : x12 ≤ 255) (l13 : 0 ≤ x13) (u13 : x13 ≤ 255) (l14 : 0 ≤ x14) (u14 : x14 ≤ 255) (l15 : 0 ≤ x15) (u15 : x15 ≤ 255) :
    Calls Try.prog 42 #[.slice (some ⟨b, o, none⟩) 16 ca, .bool tag] w fun e w' => e = .returned (.tuple #[.agg #[.bool (getL [x0, x1, x2, x3, x4, x5, x6, x7, x8, x9, x10, x11, x12, x13, x14, x15] tag).tag, .int .i64 (getL [x0, x1, x2, x3, x4, x5, x6, x7, x8, x9, x10, x11, x12, x13, x14, x15] tag).base, .int .i64 (getL [x0, x1, x2, x3, x4, x5, x6, x7, x8, x9, x10, x11, x12, x13, x14, x15] tag).top, .int .i64 (getL [x0, x1, x2, x3, x4, x5, x6, x7, x8, x9, x10, x11, x12, x13, x14, x15] tag).at_, .int .i64 (getL [x0, x1, x2, x3, x4, x5, x6, x7, x8, x9, x10, x11, x12, x13, x14, x15] tag).perms, .int .i64 (getL [x0, x1, x2, x3, x4, x5, x6, x7, x8, x9, x10, x11, x12, x13, x14, x15] tag).type], .bool true]) ∧ Ext w w' := by
  have HR := hid hr
  have hb := hr.lt (by simp)
  have a13 := and127 l13 u13
  obtain ⟨TG, htg⟩ : ∃ b, rightC ⟨true, num4 x4 x5 x6 x7, num4 x8 x9 x10 x11, num4 x0 x1 x2 x3, x13 % 128, x15⟩ = b := ⟨_, rfl⟩
  obtain ⟨WH, hwh⟩ : ∃ b, wholeL [x0, x1, x2, x3, x4, x5, x6, x7, x8, x9, x10, x11, x12, x13, x14, x15] = b := ⟨_, rfl⟩
  have e : getL [x0, x1, x2, x3, x4, x5, x6, x7, x8, x9, x10, x11, x12, x13, x14, x15] tag = ⟨tag && (WH && TG), num4 x4 x5 x6 x7, num4 x8 x9 x10 x11, num4 x0 x1 x2 x3, x13 % 128, x15⟩ := by
    unfold getL tagOf
    rw [bare_cap, hwh]
    simp only [htg]
  rw [e]
  clear e hr
  go_enter Try.func42, Try.ntmps42
  go_wp2_with (with_reducible refine wpList_load_mid rfl 61 (.tmp 13) rfl b o rfl [.int .u8 x0, .int .u8 x1, .int .u8 x2, .int .u8 x3, .int .u8 x4, .int .u8 x5, .int .u8 x6, .int .u8 x7, .int .u8 x8, .int .u8 x9, .int .u8 x10, .int .u8 x11, .int .u8 x12, .int .u8 x13, .int .u8 x14, .int .u8 x15] _ (show World.rangeAt _ b o [.int .u8 x0, .int .u8 x1, .int .u8 x2, .int .u8 x3, .int .u8 x4, .int .u8 x5, .int .u8 x6, .int .u8 x7, .int .u8 x8, .int .u8 x9, .int .u8 x10, .int .u8 x11, .int .u8 x12, .int .u8 x13, .int .u8 x14, .int .u8 x15] from RdB.range (HR.out.ext (by repeat (first | (with_reducible exact Ext.refl _) | (with_reducible refine Ext.undrew ?_) | (with_reducible refine Ext.grow ?_ _) | (with_reducible refine Ext.drew ?_) | (with_reducible refine Ext.drewN ?_ _) | (with_reducible refine Ext.alloc ?_ _) | (with_reducible assumption) | ((with_reducible refine Ext.setCell ?_ ?_ _); rotate_left; (first | exact Nat.le_refl _ | ((try dsimp only); (try simp only [World.size_alloc, grow_size, World.size_setCell]); omega))))))) Try.underlying61 rfl (by kernel_rfl) ?_)
  have f1 : Hid (Ext w ((w.alloc (.cells #[.bool false, .int .i64 0, .int .i64 0, .int .i64 0, .int .i64 0, .int .i64 0] 31)).alloc (.cells #[.int .u8 x0, .int .u8 x1, .int .u8 x2, .int .u8 x3, .int .u8 x4, .int .u8 x5, .int .u8 x6, .int .u8 x7, .int .u8 x8, .int .u8 x9, .int .u8 x10, .int .u8 x11, .int .u8 x12, .int .u8 x13, .int .u8 x14, .int .u8 x15] 61))) := hid (by repeat (first | (with_reducible exact Ext.refl _) | (with_reducible refine Ext.undrew ?_) | (with_reducible refine Ext.grow ?_ _) | (with_reducible refine Ext.drew ?_) | (with_reducible refine Ext.drewN ?_ _) | (with_reducible refine Ext.alloc ?_ _) | (with_reducible assumption) | ((with_reducible refine Ext.setCell ?_ ?_ _); rotate_left; (first | exact Nat.le_refl _ | ((try dsimp only); (try simp only [World.size_alloc, grow_size, World.size_setCell]); omega)))))
  have f2 : Hid (RdB ((w.alloc (.cells #[.bool false, .int .i64 0, .int .i64 0, .int .i64 0, .int .i64 0, .int .i64 0] 31)).alloc (.cells #[.int .u8 x0, .int .u8 x1, .int .u8 x2, .int .u8 x3, .int .u8 x4, .int .u8 x5, .int .u8 x6, .int .u8 x7, .int .u8 x8, .int .u8 x9, .int .u8 x10, .int .u8 x11, .int .u8 x12, .int .u8 x13, .int .u8 x14, .int .u8 x15] 61)) (some ⟨w.heap.size + 1, 0, none⟩) [x0, x1, x2, x3, x4, x5, x6, x7, x8, x9, x10, x11, x12, x13, x14, x15]) := hid fun _ => ⟨_, _, rfl, by simp, fun j hj => by
    match j, hj with
    | 0, _ => simp [go_sem]
    | 1, _ => simp [go_sem]
    | 2, _ => simp [go_sem]
    | 3, _ => simp [go_sem]
    | 4, _ => simp [go_sem]
    | 5, _ => simp [go_sem]
    | 6, _ => simp [go_sem]
    | 7, _ => simp [go_sem]
    | 8, _ => simp [go_sem]
    | 9, _ => simp [go_sem]
    | 10, _ => simp [go_sem]
    | 11, _ => simp [go_sem]
    | 12, _ => simp [go_sem]
    | 13, _ => simp [go_sem]
    | 14, _ => simp [go_sem]
    | 15, _ => simp [go_sem]
    | k + 16, h => exact absurd h (by simp)⟩
  have f3 : ((w.alloc (.cells #[.bool false, .int .i64 0, .int .i64 0, .int .i64 0, .int .i64 0, .int .i64 0] 31)).alloc (.cells #[.int .u8 x0, .int .u8 x1, .int .u8 x2, .int .u8 x3, .int .u8 x4, .int .u8 x5, .int .u8 x6, .int .u8 x7, .int .u8 x8, .int .u8 x9, .int .u8 x10, .int .u8 x11, .int .u8 x12, .int .u8 x13, .int .u8 x14, .int .u8 x15] 61)).cell? ⟨w.heap.size, 0, none⟩ = some (.bool false) ∧ ((w.alloc (.cells #[.bool false, .int .i64 0, .int .i64 0, .int .i64 0, .int .i64 0, .int .i64 0] 31)).alloc (.cells #[.int .u8 x0, .int .u8 x1, .int .u8 x2, .int .u8 x3, .int .u8 x4, .int .u8 x5, .int .u8 x6, .int .u8 x7, .int .u8 x8, .int .u8 x9, .int .u8 x10, .int .u8 x11, .int .u8 x12, .int .u8 x13, .int .u8 x14, .int .u8 x15] 61)).frozen? ⟨w.heap.size, 0, none⟩ = false ∧ ((w.alloc (.cells #[.bool false, .int .i64 0, .int .i64 0, .int .i64 0, .int .i64 0, .int .i64 0] 31)).alloc (.cells #[.int .u8 x0, .int .u8 x1, .int .u8 x2, .int .u8 x3, .int .u8 x4, .int .u8 x5, .int .u8 x6, .int .u8 x7, .int .u8 x8, .int .u8 x9, .int .u8 x10, .int .u8 x11, .int .u8 x12, .int .u8 x13, .int .u8 x14, .int .u8 x15] 61)).cell? ⟨w.heap.size, 1, none⟩ = some (.int .i64 0) ∧ ((w.alloc (.cells #[.bool false, .int .i64 0, .int .i64 0, .int .i64 0, .int .i64 0, .int .i64 0] 31)).alloc (.cells #[.int .u8 x0, .int .u8 x1, .int .u8 x2, .int .u8 x3, .int .u8 x4, .int .u8 x5, .int .u8 x6, .int .u8 x7, .int .u8 x8, .int .u8 x9, .int .u8 x10, .int .u8 x11, .int .u8 x12, .int .u8 x13, .int .u8 x14, .int .u8 x15] 61)).frozen? ⟨w.heap.size, 1, none⟩ = false ∧ ((w.alloc (.cells #[.bool false, .int .i64 0, .int .i64 0, .int .i64 0, .int .i64 0, .int .i64 0] 31)).alloc (.cells #[.int .u8 x0, .int .u8 x1, .int .u8 x2, .int .u8 x3, .int .u8 x4, .int .u8 x5, .int .u8 x6, .int .u8 x7, .int .u8 x8, .int .u8 x9, .int .u8 x10, .int .u8 x11, .int .u8 x12, .int .u8 x13, .int .u8 x14, .int .u8 x15] 61)).cell? ⟨w.heap.size, 2, none⟩ = some (.int .i64 0) ∧ ((w.alloc (.cells #[.bool false, .int .i64 0, .int .i64 0, .int .i64 0, .int .i64 0, .int .i64 0] 31)).alloc (.cells #[.int .u8 x0, .int .u8 x1, .int .u8 x2, .int .u8 x3, .int .u8 x4, .int .u8 x5, .int .u8 x6, .int .u8 x7, .int .u8 x8, .int .u8 x9, .int .u8 x10, .int .u8 x11, .int .u8 x12, .int .u8 x13, .int .u8 x14, .int .u8 x15] 61)).frozen? ⟨w.heap.size, 2, none⟩ = false ∧ ((w.alloc (.cells #[.bool false, .int .i64 0, .int .i64 0, .int .i64 0, .int .i64 0, .int .i64 0] 31)).alloc (.cells #[.int .u8 x0, .int .u8 x1, .int .u8 x2, .int .u8 x3, .int .u8 x4, .int .u8 x5, .int .u8 x6, .int .u8 x7, .int .u8 x8, .int .u8 x9, .int .u8 x10, .int .u8 x11, .int .u8 x12, .int .u8 x13, .int .u8 x14, .int .u8 x15] 61)).cell? ⟨w.heap.size, 3, none⟩ = some (.int .i64 0) ∧ ((w.alloc (.cells #[.bool false, .int .i64 0, .int .i64 0, .int .i64 0, .int .i64 0, .int .i64 0] 31)).alloc (.cells #[.int .u8 x0, .int .u8 x1, .int .u8 x2, .int .u8 x3, .int .u8 x4, .int .u8 x5, .int .u8 x6, .int .u8 x7, .int .u8 x8, .int .u8 x9, .int .u8 x10, .int .u8 x11, .int .u8 x12, .int .u8 x13, .int .u8 x14, .int .u8 x15] 61)).frozen? ⟨w.heap.size, 3, none⟩ = false ∧ ((w.alloc (.cells #[.bool false, .int .i64 0, .int .i64 0, .int .i64 0, .int .i64 0, .int .i64 0] 31)).alloc (.cells #[.int .u8 x0, .int .u8 x1, .int .u8 x2, .int .u8 x3, .int .u8 x4, .int .u8 x5, .int .u8 x6, .int .u8 x7, .int .u8 x8, .int .u8 x9, .int .u8 x10, .int .u8 x11, .int .u8 x12, .int .u8 x13, .int .u8 x14, .int .u8 x15] 61)).cell? ⟨w.heap.size, 4, none⟩ = some (.int .i64 0) ∧ ((w.alloc (.cells #[.bool false, .int .i64 0, .int .i64 0, .int .i64 0, .int .i64 0, .int .i64 0] 31)).alloc (.cells #[.int .u8 x0, .int .u8 x1, .int .u8 x2, .int .u8 x3, .int .u8 x4, .int .u8 x5, .int .u8 x6, .int .u8 x7, .int .u8 x8, .int .u8 x9, .int .u8 x10, .int .u8 x11, .int .u8 x12, .int .u8 x13, .int .u8 x14, .int .u8 x15] 61)).frozen? ⟨w.heap.size, 4, none⟩ = false ∧ ((w.alloc (.cells #[.bool false, .int .i64 0, .int .i64 0, .int .i64 0, .int .i64 0, .int .i64 0] 31)).alloc (.cells #[.int .u8 x0, .int .u8 x1, .int .u8 x2, .int .u8 x3, .int .u8 x4, .int .u8 x5, .int .u8 x6, .int .u8 x7, .int .u8 x8, .int .u8 x9, .int .u8 x10, .int .u8 x11, .int .u8 x12, .int .u8 x13, .int .u8 x14, .int .u8 x15] 61)).cell? ⟨w.heap.size, 5, none⟩ = some (.int .i64 0) ∧ ((w.alloc (.cells #[.bool false, .int .i64 0, .int .i64 0, .int .i64 0, .int .i64 0, .int .i64 0] 31)).alloc (.cells #[.int .u8 x0, .int .u8 x1, .int .u8 x2, .int .u8 x3, .int .u8 x4, .int .u8 x5, .int .u8 x6, .int .u8 x7, .int .u8 x8, .int .u8 x9, .int .u8 x10, .int .u8 x11, .int .u8 x12, .int .u8 x13, .int .u8 x14, .int .u8 x15] 61)).frozen? ⟨w.heap.size, 5, none⟩ = false := by simp [go_sem]
  have f4 : ((w.alloc (.cells #[.bool false, .int .i64 0, .int .i64 0, .int .i64 0, .int .i64 0, .int .i64 0] 31)).alloc (.cells #[.int .u8 x0, .int .u8 x1, .int .u8 x2, .int .u8 x3, .int .u8 x4, .int .u8 x5, .int .u8 x6, .int .u8 x7, .int .u8 x8, .int .u8 x9, .int .u8 x10, .int .u8 x11, .int .u8 x12, .int .u8 x13, .int .u8 x14, .int .u8 x15] 61)).heap.size = w.heap.size + 2 := by simp
  generalize ((w.alloc (.cells #[.bool false, .int .i64 0, .int .i64 0, .int .i64 0, .int .i64 0, .int .i64 0] 31)).alloc (.cells #[.int .u8 x0, .int .u8 x1, .int .u8 x2, .int .u8 x3, .int .u8 x4, .int .u8 x5, .int .u8 x6, .int .u8 x7, .int .u8 x8, .int .u8 x9, .int .u8 x10, .int .u8 x11, .int .u8 x12, .int .u8 x13, .int .u8 x14, .int .u8 x15] 61)) = W at f1 f2 f3 f4 ⊢
  obtain ⟨c0, z0, c1, z1, c2, z2, c3, z3, c4, z4, c5, z5⟩ := f3
  have hq : w.heap.size < W.heap.size := by omega
  have hq1 : w.heap.size + 1 < W.heap.size := by omega
  have k13 : W.cell? ⟨w.heap.size + 1, 13, none⟩ = some (.int .u8 x13) := f2.out.six.2.2.2.2.2.2.2.2.2.2.2.2.2.1
  have k15 : W.cell? ⟨w.heap.size + 1, 15, none⟩ = some (.int .u8 x15) := f2.out.six.2.2.2.2.2.2.2.2.2.2.2.2.2.2.2
  clear HR hb hca hcm f4
  go_cut [7] (fun s7 wx => ∃ g : Nat, s7 = .pointer (some ⟨g, 0, none⟩) ∧ W.heap.size ≤ g ∧ g < wx.heap.size ∧ Hid (Ext W wx) ∧ wx.cell? ⟨g, 0, none⟩ = some (.bool false) ∧ wx.frozen? ⟨g, 0, none⟩ = false ∧ wx.cell? ⟨g, 1, none⟩ = some (.int .i64 (num4 x4 x5 x6 x7)) ∧ wx.frozen? ⟨g, 1, none⟩ = false ∧ wx.cell? ⟨g, 2, none⟩ = some (.int .i64 (num4 x8 x9 x10 x11)) ∧ wx.frozen? ⟨g, 2, none⟩ = false ∧ wx.cell? ⟨g, 3, none⟩ = some (.int .i64 (num4 x0 x1 x2 x3)) ∧ wx.frozen? ⟨g, 3, none⟩ = false ∧ wx.cell? ⟨g, 4, none⟩ = some (.int .i64 (x13 % 128)) ∧ wx.frozen? ⟨g, 4, none⟩ = false ∧ wx.cell? ⟨g, 5, none⟩ = some (.int .i64 x15) ∧ wx.frozen? ⟨g, 5, none⟩ = false)
  case first =>
    refine wp_region_step (.rd 0 (.rd 2 (.rd 4 (.rd 6 (.rd 7 (.rd 8 (.rd 9 (.rd 10 (.rd 11 (.rd 12 (.br 1 (.br 3 (.br 5 (.rd 13 (.ac 14 (.ac 15 .done))) 14 (.ac 5 (.rd 13 (.ac 15 .done)))) 14 (.ac 3 (.ac 5 (.rd 13 (.ac 15 .done))))) 14 (.ac 1 (.ac 3 (.ac 5 (.rd 13 (.ac 15 .done)))))))))))))))) (by kernel_rfl) (by kernel_rfl) (fun _ _ d _ _ h => by cases d <;> exact h) (by simp only [Ord.map, nthOp, List.append]; rfl) ?_
    intro d0
    repeat' (first | (refine step_read (by rfl) (fun K hK => ?_); refine quiet_load 61 (.tmp 6) rfl (w.heap.size + 1) 0 rfl [.int .u8 x0, .int .u8 x1, .int .u8 x2, .int .u8 x3, .int .u8 x4, .int .u8 x5, .int .u8 x6, .int .u8 x7, .int .u8 x8, .int .u8 x9, .int .u8 x10, .int .u8 x11, .int .u8 x12, .int .u8 x13, .int .u8 x14, .int .u8 x15] _ (RdB.range (f2.out.ext (by repeat (first | (with_reducible exact Ext.refl _) | (with_reducible refine Ext.undrew ?_) | (with_reducible refine Ext.grow ?_ _) | (with_reducible refine Ext.drew ?_) | (with_reducible refine Ext.drewN ?_ _) | (with_reducible refine Ext.alloc ?_ _) | (with_reducible assumption) | ((with_reducible refine Ext.setCell ?_ ?_ _); rotate_left; (first | exact Nat.le_refl _ | ((try dsimp only); (try simp only [World.size_alloc, grow_size, World.size_setCell]); omega))))))) (by simp only [grow_size, World.size_drew, World.size_alloc]; omega) Try.underlying61 rfl (by kernel_rfl) ?_; refine hK _ ?_; clear hK K; simp only [Act.put, List.setIfInBounds_toArray, List.set_cons_zero, List.set_cons_succ]) | (refine step_read (by rfl) (fun K hK => ?_); go_big_quiet_op; refine hK _ ?_; clear hK K) | (refine step_act (by rfl) (fun K hK => ?_); go_wp2_with (first | (go_at_call 51; with_reducible refine (word4 _ _ _ _ _ _ _ _ _ _ _ _ _ _ _ _ _ l0 u0 l1 u1 l2 u2 l3 u3 l4 u4 l5 u5 l6 u6 l7 u7 l8 u8 l9 u9 l10 u10 l11 u11 l12 u12 l13 u13 l14 u14 l15 u15).mono ?_; rintro e w1 ⟨rfl, hy⟩; obtain ⟨d, rfl⟩ := hy.grown; clear hy) | (go_at_call 51; with_reducible refine (word8 _ _ _ _ _ _ _ _ _ _ _ _ _ _ _ _ _ l0 u0 l1 u1 l2 u2 l3 u3 l4 u4 l5 u5 l6 u6 l7 u7 l8 u8 l9 u9 l10 u10 l11 u11 l12 u12 l13 u13 l14 u14 l15 u15).mono ?_; rintro e w1 ⟨rfl, hy⟩; obtain ⟨d, rfl⟩ := hy.grown; clear hy) | (go_at_call 51; with_reducible refine (word0 _ _ _ _ _ _ _ _ _ _ _ _ _ _ _ _ _ l0 u0 l1 u1 l2 u2 l3 u3 l4 u4 l5 u5 l6 u6 l7 u7 l8 u8 l9 u9 l10 u10 l11 u11 l12 u12 l13 u13 l14 u14 l15 u15).mono ?_; rintro e w1 ⟨rfl, hy⟩; obtain ⟨d, rfl⟩ := hy.grown; clear hy)); refine ⟨_, Ext.refl _, (by repeat (first | (with_reducible exact Ext.refl _) | (with_reducible refine Ext.undrew ?_) | (with_reducible refine Ext.grow ?_ _) | (with_reducible refine Ext.drew ?_) | (with_reducible refine Ext.drewN ?_ _) | (with_reducible refine Ext.alloc ?_ _) | (with_reducible assumption) | ((with_reducible refine Ext.setCell ?_ ?_ _); rotate_left; (first | exact Nat.le_refl _ | ((try dsimp only); (try simp only [World.size_alloc, grow_size, World.size_setCell]); omega))))), ?_⟩) | refine step_br ?_ ?_)
    all_goals refine step_nil ?_
    all_goals (go_wp2_with fail; go_meet; exact ⟨_, rfl, by simp [go_sem], by simp [go_sem], hid (by repeat (first | (with_reducible exact Ext.refl _) | (with_reducible refine Ext.undrew ?_) | (with_reducible refine Ext.grow ?_ _) | (with_reducible refine Ext.drew ?_) | (with_reducible refine Ext.drewN ?_ _) | (with_reducible refine Ext.alloc ?_ _) | (with_reducible assumption) | ((with_reducible refine Ext.setCell ?_ ?_ _); rotate_left; (first | exact Nat.le_refl _ | ((try dsimp only); (try simp only [World.size_alloc, grow_size, World.size_setCell]); omega))))), by simp [go_sem], by simp [go_sem], by simp [go_sem], by simp [go_sem], by simp [go_sem], by simp [go_sem], by simp [go_sem], by simp [go_sem], by simp [go_sem], by simp [go_sem], by simp [go_sem], by simp [go_sem]⟩)
  case rest =>
    obtain ⟨g, rfl, hg, hg2, hxW, e0, y0, e1, y1, e2, y2, e3, y3, e4, y4, e5, y5⟩ := hcut
    obtain ⟨k0, k1, k2, k3, k4, k5, k6, k7, k8, k9, k10, k11, k12, k13, k14, k15⟩ := (f2.out.ext hxW.out).six
    simp only [Nat.zero_add] at k0 k1 k2 k3 k4 k5 k6 k7 k8 k9 k10 k11 k12 k13 k14 k15
    have g0 := (hxW.out.cells w.heap.size 0 hq).trans c0
    have v0 := (hxW.out.frozens w.heap.size 0 hq).trans z0
    have g1 := (hxW.out.cells w.heap.size 1 hq).trans c1
    have v1 := (hxW.out.frozens w.heap.size 1 hq).trans z1
    have g2 := (hxW.out.cells w.heap.size 2 hq).trans c2
    have v2 := (hxW.out.frozens w.heap.size 2 hq).trans z2
    have g3 := (hxW.out.cells w.heap.size 3 hq).trans c3
    have v3 := (hxW.out.frozens w.heap.size 3 hq).trans z3
    have g4 := (hxW.out.cells w.heap.size 4 hq).trans c4
    have v4 := (hxW.out.frozens w.heap.size 4 hq).trans z4
    have g5 := (hxW.out.cells w.heap.size 5 hq).trans c5
    have v5 := (hxW.out.frozens w.heap.size 5 hq).trans z5
    have hx : Ext w wc := Ext.trans f1.out hxW.out
    have hqc : w.heap.size < wc.heap.size := Nat.lt_of_lt_of_le hq hxW.out.size
    have hqc1 : w.heap.size + 1 < wc.heap.size := Nat.lt_of_lt_of_le hq1 hxW.out.size
    have hn1 : ¬ g = w.heap.size := by omega
    have hn2 : ¬ w.heap.size = g := by omega
    have hn3 : ¬ g = w.heap.size + 1 := by omega
    have hn4 : ¬ w.heap.size + 1 = g := by omega
    have hwg : w.heap.size ≤ g := by omega
    clear c0 c1 c2 c3 c4 c5 z0 z1 z2 z3 z4 z5 f1 f2 hxW a13 hq hq1 hg
    (cases tag)
    any_goals (cases WH)
    any_goals (cases TG)
    all_goals go_wp2_with (first | (go_at_call 52; refine (whole_ _ _ _ _ _ _ _ _ _ _ _ _ _ _ _ _ _).mono ?_; rintro e w1 ⟨rfl, hy⟩; obtain ⟨d, rfl⟩ := hy.grown; clear hy) | (go_at_call 53; refine (taggable_ _ _ _ _ _ _ _).mono ?_; rintro e w1 ⟨rfl, hy⟩; obtain ⟨d, rfl⟩ := hy.grown; clear hy))
    all_goals exact bodyPost_ret (v := .tuple #[.agg #[.bool _, .int .i64 (num4 x4 x5 x6 x7), .int .i64 (num4 x8 x9 x10 x11), .int .i64 (num4 x0 x1 x2 x3), .int .i64 (x13 % 128), .int .i64 x15], .bool true]) (by simp [results, Try.results42, go_sem, hqc, g0, g1, g2, g3, g4, g5]) rfl ⟨rfl, (by repeat (first | (with_reducible exact Ext.refl _) | (with_reducible refine Ext.undrew ?_) | (with_reducible refine Ext.grow ?_ _) | (with_reducible refine Ext.drew ?_) | (with_reducible refine Ext.drewN ?_ _) | (with_reducible refine Ext.alloc ?_ _) | (with_reducible assumption) | ((with_reducible refine Ext.setCell ?_ ?_ _); rotate_left; (first | exact Nat.le_refl _ | ((try dsimp only); (try simp only [World.size_alloc, grow_size, World.size_setCell]); omega)))))⟩


end Go.Proofs.Ytgpeabbbeidhpaa
