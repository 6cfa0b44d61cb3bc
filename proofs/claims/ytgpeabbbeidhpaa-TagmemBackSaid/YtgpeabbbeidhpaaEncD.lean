/- Layer 3: numbers of bytes. -/
import Derived.Test.YtgpeabbbeidhpaaBytes
import Derived.Test.YtgpeabbbeidhpaaCap
import Derived.Test.YtgpeabbbeidhpaaStep
import Derived.Laws.BitsLemmas
namespace Go.Proofs.Ytgpeabbbeidhpaa
set_option linter.unusedSimpArgs false
set_option linter.unusedVariables false
open Go.RowKit


theorem wraps_i64 (n : Int) (h0 : 0 ≤ n) (h1 : n < 2 ^ 63) : IntKind.i64.wrap n = n := by rw [IntKind.wrap_i64]; omega
theorem or256 {x y : Int} (h0 : 0 ≤ x) (h1 : x % 256 = 0) (h2 : x < 1099511627776) (h3 : 0 ≤ y) (h4 : y < 256) : bits .or .i64 x y = x + y :=
  bits_join .i64 63 (by decide) wraps_i64 8 x y h0 h1 (by omega) h3 h4 (by omega)
theorem or0 {y : Int} (h3 : 0 ≤ y) (h4 : y < 256) : bits .or .i64 0 y = y := by
  rw [or256 (by omega) (by omega) (by omega) h3 h4]; omega
theorem and127_all : ∀ n : Fin 256, bits .and .i64 (n.val : Int) 127 = (n.val : Int) % 128 := by decide +kernel
theorem and127 {n : Int} (h0 : 0 ≤ n) (h1 : n ≤ 255) : bits .and .i64 n 127 = n % 128 := by
  have := and127_all ⟨n.toNat, by omega⟩
  simpa [show ((n.toNat : Nat) : Int) = n by omega] using this
/-- The number of four bytes. -/
def num4 (a b c d : Int) : Int := ((a * 256 + b) * 256 + c) * 256 + d
theorem num4_bd {a b c d : Int} (ha : 0 ≤ a ∧ a ≤ 255) (hb : 0 ≤ b ∧ b ≤ 255) (hc : 0 ≤ c ∧ c ≤ 255) (hd : 0 ≤ d ∧ d ≤ 255) : 0 ≤ num4 a b c d ∧ num4 a b c d ≤ 4294967295 := by unfold num4; omega
def num4At (l : List Int) (i : Nat) : Int := num4 (l.getD i 0) (l.getD (i + 1) 0) (l.getD (i + 2) 0) (l.getD (i + 3) 0)
def bareC (l : List Int) : Cap := ⟨false, num4At l 4, num4At l 8, num4At l 0, l.getD 13 0 % 128, l.getD 15 0⟩
def wholeL (l : List Int) : Bool := decide (l.getD 12 0 = 0) && decide (l.getD 14 0 = 0) && decide (l.getD 13 0 ≤ 127)
def tagOf (l : List Int) (tag : Bool) : Bool := tag && (wholeL l && rightC { bareC l with tag := true })
def getL (l : List Int) (tag : Bool) : Cap := { bareC l with tag := tagOf l tag }
theorem sixteen {l : List Int} (h : l.length = 16) : ∃ x0 x1 x2 x3 x4 x5 x6 x7 x8 x9 x10 x11 x12 x13 x14 x15, l = [x0, x1, x2, x3, x4, x5, x6, x7, x8, x9, x10, x11, x12, x13, x14, x15] := by
  obtain _ | ⟨x0, l⟩ := l
  · simp at h
  obtain _ | ⟨x1, l⟩ := l
  · simp at h
  obtain _ | ⟨x2, l⟩ := l
  · simp at h
  obtain _ | ⟨x3, l⟩ := l
  · simp at h
  obtain _ | ⟨x4, l⟩ := l
  · simp at h
  obtain _ | ⟨x5, l⟩ := l
  · simp at h
  obtain _ | ⟨x6, l⟩ := l
  · simp at h
  obtain _ | ⟨x7, l⟩ := l
  · simp at h
  obtain _ | ⟨x8, l⟩ := l
  · simp at h
  obtain _ | ⟨x9, l⟩ := l
  · simp at h
  obtain _ | ⟨x10, l⟩ := l
  · simp at h
  obtain _ | ⟨x11, l⟩ := l
  · simp at h
  obtain _ | ⟨x12, l⟩ := l
  · simp at h
  obtain _ | ⟨x13, l⟩ := l
  · simp at h
  obtain _ | ⟨x14, l⟩ := l
  · simp at h
  obtain _ | ⟨x15, l⟩ := l
  · simp at h
  obtain _ | ⟨_, l⟩ := l
  · exact ⟨x0, x1, x2, x3, x4, x5, x6, x7, x8, x9, x10, x11, x12, x13, x14, x15, rfl⟩
  · simp at h
set_option maxRecDepth 100000 in
set_option maxHeartbeats 2000000 in
theorem word0 (x0 x1 x2 x3 x4 x5 x6 x7 x8 x9 x10 x11 x12 x13 x14 x15 : Int) (w : World) (l0 : 0 ≤ x0) (u0 : x0 ≤ 255) (l1 : 0 ≤ x1) (u1 : x1 ≤ 255) (l2 : 0 ≤ x2) (u2 : x2 ≤ 255) (l3 : 0 ≤ x3) (u3 : x3 ≤ 255) (l4 : 0 ≤ x4) (u4 : x4 ≤ 255) (l5 : 0 ≤ x5) (u5 : x5 ≤ 255) (l6 : 0 ≤ x6) (u6 : x6 ≤ 255) (l7 : 0 ≤ x7) (u7 : x7 ≤ 255) (l8 : 0 ≤ x8) (u8 : x8 ≤ 255) (l9 : 0 ≤ x9) (u9 : x9 ≤ 255) (l10 : 0 ≤ x10) (u10 : x10 ≤ 255) (l11 : 0 ≤ x11) (u11 : x11 ≤ 255) (l12 : 0 ≤ x12) (u12 : x12 ≤ 255) (l13 : 0 ≤ x13) (u13 : x13 ≤ 255) (l14 : 0 ≤ x14) (u14 : x14 ≤ 255) (l15 : 0 ≤ x15) (u15 : x15 ≤ 255) :
    Calls Try.prog 51 #[.agg #[.int .u8 x0, .int .u8 x1, .int .u8 x2, .int .u8 x3, .int .u8 x4, .int .u8 x5, .int .u8 x6, .int .u8 x7, .int .u8 x8, .int .u8 x9, .int .u8 x10, .int .u8 x11, .int .u8 x12, .int .u8 x13, .int .u8 x14, .int .u8 x15], .int .i64 0] w fun e w' => e = .returned (.int .i64 (num4 x0 x1 x2 x3)) ∧ Ext w w' := by
  unfold num4
  have q0 : bits .or .i64 0 x0 = x0 := or0 l0 (by omega)
  have q1 : bits .or .i64 (x0 * 256) x1 = x0 * 256 + x1 := or256 (by omega) (by omega) (by omega) (by omega) (by omega)
  have q2 : bits .or .i64 ((x0 * 256 + x1) * 256) x2 = (x0 * 256 + x1) * 256 + x2 := or256 (by omega) (by omega) (by omega) (by omega) (by omega)
  have q3 : bits .or .i64 (((x0 * 256 + x1) * 256 + x2) * 256) x3 = ((x0 * 256 + x1) * 256 + x2) * 256 + x3 := or256 (by omega) (by omega) (by omega) (by omega) (by omega)
  go_enter Try.func51, Try.ntmps51
  go_wp2
  refine wp_loop_rounds 5 ?_
  rw [rounds_succ]
  go_wp2
  rw [rounds_succ]
  go_wp2
  rw [rounds_succ]
  go_wp2
  rw [rounds_succ]
  go_wp2
  rw [rounds_succ]
  go_wp2
  go_ret
  exact ⟨rfl, (by repeat (first | (with_reducible exact Ext.refl _) | (with_reducible refine Ext.undrew ?_) | (with_reducible refine Ext.grow ?_ _) | (with_reducible refine Ext.drew ?_) | (with_reducible refine Ext.drewN ?_ _) | (with_reducible refine Ext.alloc ?_ _) | (with_reducible assumption) | ((with_reducible refine Ext.setCell ?_ ?_ _); rotate_left; (first | exact Nat.le_refl _ | ((try dsimp only); (try simp only [World.size_alloc, grow_size, World.size_setCell]); omega)))))⟩

set_option maxRecDepth 100000 in
set_option maxHeartbeats 2000000 in
theorem word4 (x0 x1 x2 x3 x4 x5 x6 x7 x8 x9 x10 x11 x12 x13 x14 x15 : Int) (w : World) (l0 : 0 ≤ x0) (u0 : x0 ≤ 255) (l1 : 0 ≤ x1) (u1 : x1 ≤ 255) (l2 : 0 ≤ x2) (u2 : x2 ≤ 255) (l3 : 0 ≤ x3) (u3 : x3 ≤ 255) (l4 : 0 ≤ x4) (u4 : x4 ≤ 255) (l5 : 0 ≤ x5) (u5 : x5 ≤ 255) (l6 : 0 ≤ x6) (u6 : x6 ≤ 255) (l7 : 0 ≤ x7) (u7 : x7 ≤ 255) (l8 : 0 ≤ x8) (u8 : x8 ≤ 255) (l9 : 0 ≤ x9) (u9 : x9 ≤ 255) (l10 : 0 ≤ x10) (u10 : x10 ≤ 255) (l11 : 0 ≤ x11) (u11 : x11 ≤ 255) (l12 : 0 ≤ x12) (u12 : x12 ≤ 255) (l13 : 0 ≤ x13) (u13 : x13 ≤ 255) (l14 : 0 ≤ x14) (u14 : x14 ≤ 255) (l15 : 0 ≤ x15) (u15 : x15 ≤ 255) :
    Calls Try.prog 51 #[.agg #[.int .u8 x0, .int .u8 x1, .int .u8 x2, .int .u8 x3, .int .u8 x4, .int .u8 x5, .int .u8 x6, .int .u8 x7, .int .u8 x8, .int .u8 x9, .int .u8 x10, .int .u8 x11, .int .u8 x12, .int .u8 x13, .int .u8 x14, .int .u8 x15], .int .i64 4] w fun e w' => e = .returned (.int .i64 (num4 x4 x5 x6 x7)) ∧ Ext w w' := by
  unfold num4
  have q0 : bits .or .i64 0 x4 = x4 := or0 l4 (by omega)
  have q1 : bits .or .i64 (x4 * 256) x5 = x4 * 256 + x5 := or256 (by omega) (by omega) (by omega) (by omega) (by omega)
  have q2 : bits .or .i64 ((x4 * 256 + x5) * 256) x6 = (x4 * 256 + x5) * 256 + x6 := or256 (by omega) (by omega) (by omega) (by omega) (by omega)
  have q3 : bits .or .i64 (((x4 * 256 + x5) * 256 + x6) * 256) x7 = ((x4 * 256 + x5) * 256 + x6) * 256 + x7 := or256 (by omega) (by omega) (by omega) (by omega) (by omega)
  go_enter Try.func51, Try.ntmps51
  go_wp2
  refine wp_loop_rounds 5 ?_
  rw [rounds_succ]
  go_wp2
  rw [rounds_succ]
  go_wp2
  rw [rounds_succ]
  go_wp2
  rw [rounds_succ]
  go_wp2
  rw [rounds_succ]
  go_wp2
  go_ret
  exact ⟨rfl, (by repeat (first | (with_reducible exact Ext.refl _) | (with_reducible refine Ext.undrew ?_) | (with_reducible refine Ext.grow ?_ _) | (with_reducible refine Ext.drew ?_) | (with_reducible refine Ext.drewN ?_ _) | (with_reducible refine Ext.alloc ?_ _) | (with_reducible assumption) | ((with_reducible refine Ext.setCell ?_ ?_ _); rotate_left; (first | exact Nat.le_refl _ | ((try dsimp only); (try simp only [World.size_alloc, grow_size, World.size_setCell]); omega)))))⟩

set_option maxRecDepth 100000 in
set_option maxHeartbeats 2000000 in
theorem word8 (x0 x1 x2 x3 x4 x5 x6 x7 x8 x9 x10 x11 x12 x13 x14 x15 : Int) (w : World) (l0 : 0 ≤ x0) (u0 : x0 ≤ 255) (l1 : 0 ≤ x1) (u1 : x1 ≤ 255) (l2 : 0 ≤ x2) (u2 : x2 ≤ 255) (l3 : 0 ≤ x3) (u3 : x3 ≤ 255) (l4 : 0 ≤ x4) (u4 : x4 ≤ 255) (l5 : 0 ≤ x5) (u5 : x5 ≤ 255) (l6 : 0 ≤ x6) (u6 : x6 ≤ 255) (l7 : 0 ≤ x7) (u7 : x7 ≤ 255) (l8 : 0 ≤ x8) (u8 : x8 ≤ 255) (l9 : 0 ≤ x9) (u9 : x9 ≤ 255) (l10 : 0 ≤ x10) (u10 : x10 ≤ 255) (l11 : 0 ≤ x11) (u11 : x11 ≤ 255) (l12 : 0 ≤ x12) (u12 : x12 ≤ 255) (l13 : 0 ≤ x13) (u13 : x13 ≤ 255) (l14 : 0 ≤ x14) (u14 : x14 ≤ 255) (l15 : 0 ≤ x15) (u15 : x15 ≤ 255) :
    Calls Try.prog 51 #[.agg #[.int .u8 x0, .int .u8 x1, .int .u8 x2, .int .u8 x3, .int .u8 x4, .int .u8 x5, .int .u8 x6, .int .u8 x7, .int .u8 x8, .int .u8 x9, .int .u8 x10, .int .u8 x11, .int .u8 x12, .int .u8 x13, .int .u8 x14, .int .u8 x15], .int .i64 8] w fun e w' => e = .returned (.int .i64 (num4 x8 x9 x10 x11)) ∧ Ext w w' := by
  unfold num4
  have q0 : bits .or .i64 0 x8 = x8 := or0 l8 (by omega)
  have q1 : bits .or .i64 (x8 * 256) x9 = x8 * 256 + x9 := or256 (by omega) (by omega) (by omega) (by omega) (by omega)
  have q2 : bits .or .i64 ((x8 * 256 + x9) * 256) x10 = (x8 * 256 + x9) * 256 + x10 := or256 (by omega) (by omega) (by omega) (by omega) (by omega)
  have q3 : bits .or .i64 (((x8 * 256 + x9) * 256 + x10) * 256) x11 = ((x8 * 256 + x9) * 256 + x10) * 256 + x11 := or256 (by omega) (by omega) (by omega) (by omega) (by omega)
  go_enter Try.func51, Try.ntmps51
  go_wp2
  refine wp_loop_rounds 5 ?_
  rw [rounds_succ]
  go_wp2
  rw [rounds_succ]
  go_wp2
  rw [rounds_succ]
  go_wp2
  rw [rounds_succ]
  go_wp2
  rw [rounds_succ]
  go_wp2
  go_ret
  exact ⟨rfl, (by repeat (first | (with_reducible exact Ext.refl _) | (with_reducible refine Ext.undrew ?_) | (with_reducible refine Ext.grow ?_ _) | (with_reducible refine Ext.drew ?_) | (with_reducible refine Ext.drewN ?_ _) | (with_reducible refine Ext.alloc ?_ _) | (with_reducible assumption) | ((with_reducible refine Ext.setCell ?_ ?_ _); rotate_left; (first | exact Nat.le_refl _ | ((try dsimp only); (try simp only [World.size_alloc, grow_size, World.size_setCell]); omega)))))⟩

set_option maxHeartbeats 2000000 in
theorem unfour_ (b o ca : Nat) (y0 y1 y2 y3 : Int) (w : World) (hb : b < w.heap.size) (hc : w.cell? ⟨b, o, none⟩ = some (.int .u8 y0) ∧ w.cell? ⟨b, o + 1, none⟩ = some (.int .u8 y1) ∧ w.cell? ⟨b, o + 2, none⟩ = some (.int .u8 y2) ∧ w.cell? ⟨b, o + 3, none⟩ = some (.int .u8 y3)) (hy : 0 ≤ y0 ∧ y0 ≤ 255 ∧ 0 ≤ y1 ∧ y1 ≤ 255 ∧ 0 ≤ y2 ∧ y2 ≤ 255 ∧ 0 ≤ y3 ∧ y3 ≤ 255) :
    Calls Try.prog 54 #[.slice (some ⟨b, o, none⟩) 4 ca] w fun e w' => e = .returned (.int .i64 (num4 y0 y1 y2 y3)) ∧ Ext w w' := by
  obtain ⟨c0, c1, c2, c3⟩ := hc
  have e : num4 y0 y1 y2 y3 = 16777216 * y0 + 65536 * y1 + 256 * y2 + y3 := by unfold num4; omega
  rw [e]
  clear e
  go_enter Try.func54, Try.ntmps54
  go_wp2
  refine wp_region_grow (by kernel_rfl) (by kernel_rfl) (by first | (simp only [List.append]; rfl) | rfl) ?_; (repeat (first | ((first | refine quiet_pick_and (by rfl) (by rfl) (by rfl) (by rfl) ?_ | refine quiet_pick_or (by rfl) (by rfl) (by rfl) (by rfl) ?_); simp only [Act.put, List.setIfInBounds_toArray, List.set_cons_zero, List.set_cons_succ]) | go_big_quiet_step (fail) | (refine quiet_guard (v := ?_) (by rfl) (by rfl) (fun hX w hC => ?_) ?_; rotate_left; (obtain ⟨d, rfl⟩ := hC; (try simp only [Bool.and_eq_true, Bool.or_eq_false_iff] at hX); go_split_ands; go_simp; (first | with_reducible rfl | fail)); simp only [Act.put, List.setIfInBounds_toArray, List.set_cons_zero, List.set_cons_succ]))); refine wpQuiet_nil ?_; intro wq hq; obtain ⟨d, rfl⟩ := hq
  go_wp2
  go_ret
  exact ⟨rfl, (by repeat (first | (with_reducible exact Ext.refl _) | (with_reducible refine Ext.undrew ?_) | (with_reducible refine Ext.grow ?_ _) | (with_reducible refine Ext.drew ?_) | (with_reducible refine Ext.drewN ?_ _) | (with_reducible refine Ext.alloc ?_ _) | (with_reducible assumption) | ((with_reducible refine Ext.setCell ?_ ?_ _); rotate_left; (first | exact Nat.le_refl _ | ((try dsimp only); (try simp only [World.size_alloc, grow_size, World.size_setCell]); omega)))))⟩


end Go.Proofs.Ytgpeabbbeidhpaa
