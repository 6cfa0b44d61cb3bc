/- Layer 13: the document's Put that is refused. -/
import Derived.Test.YtlbemgkdpagoiaaQuaG
namespace Go.Proofs.Ytlbemgkdpagoiaa
set_option linter.unusedSimpArgs false
set_option linter.unusedVariables false
open Go.RowKit

set_option maxRecDepth 100000 in
set_option maxHeartbeats 4000000 in
theorem rqput_no1 (q base : Nat) (full : Int) (v : Value) (l : List Hd) (w : World) (h : Rq w q base full v l) (z : Hd) (k1 : z.at_ < 0) :
    Calls Try.prog 15 #[.pointer (some ⟨q, 0, none⟩), .agg #[.int .i64 z.at_, .int .i64 z.n, .int .i64 z.time]] w fun e w' => e = .returned (.bool false) ∧ Ext w w' := by
  clear h
  go_enter Try.func15, Try.ntmps15
  go_upto_region 1 with (fail)
  refine wp_region_grow (by kernel_rfl) (by kernel_rfl) (by first | (simp only [List.append]; rfl) | rfl) ?_
  (repeat (go_big_quiet_step (fail)))
  refine wpQuiet_nil ?_
  intro wq hq
  obtain ⟨d, rfl⟩ := hq
  go_wp2
  go_ret
  exact ⟨rfl, (by repeat (first | (with_reducible exact Ext.refl _) | (with_reducible refine Ext.undrew ?_) | (with_reducible refine Ext.grow ?_ _) | (with_reducible refine Ext.drew ?_) | (with_reducible refine Ext.drewN ?_ _) | (with_reducible refine Ext.alloc ?_ _) | (with_reducible assumption) | ((with_reducible refine Ext.setCell ?_ ?_ _); rotate_left; (first | exact Nat.le_refl _ | ((try dsimp only); (try simp only [World.size_alloc, grow_size, World.size_setCell]); omega)))))⟩
set_option maxRecDepth 100000 in
set_option maxHeartbeats 4000000 in
theorem rqput_no2 (q base : Nat) (full : Int) (v : Value) (l : List Hd) (w : World) (h : Rq w q base full v l) (z : Hd) (k2 : (16777216 : Int) < z.at_) :
    Calls Try.prog 15 #[.pointer (some ⟨q, 0, none⟩), .agg #[.int .i64 z.at_, .int .i64 z.n, .int .i64 z.time]] w fun e w' => e = .returned (.bool false) ∧ Ext w w' := by
  clear h
  have k1 : ¬ z.at_ < 0 := by omega
  go_enter Try.func15, Try.ntmps15
  go_upto_region 1 with (fail)
  refine wp_region_grow (by kernel_rfl) (by kernel_rfl) (by first | (simp only [List.append]; rfl) | rfl) ?_
  (repeat (go_big_quiet_step (fail)))
  refine wpQuiet_nil ?_
  intro wq hq
  obtain ⟨d, rfl⟩ := hq
  go_wp2
  go_ret
  exact ⟨rfl, (by repeat (first | (with_reducible exact Ext.refl _) | (with_reducible refine Ext.undrew ?_) | (with_reducible refine Ext.grow ?_ _) | (with_reducible refine Ext.drew ?_) | (with_reducible refine Ext.drewN ?_ _) | (with_reducible refine Ext.alloc ?_ _) | (with_reducible assumption) | ((with_reducible refine Ext.setCell ?_ ?_ _); rotate_left; (first | exact Nat.le_refl _ | ((try dsimp only); (try simp only [World.size_alloc, grow_size, World.size_setCell]); omega)))))⟩
set_option maxRecDepth 100000 in
set_option maxHeartbeats 4000000 in
theorem rqput_no3 (q base : Nat) (full : Int) (v : Value) (l : List Hd) (w : World) (h : Rq w q base full v l) (z : Hd) (a1 : 0 ≤ z.at_ ∧ z.at_ ≤ 16777216) (k3 : z.n < 0) :
    Calls Try.prog 15 #[.pointer (some ⟨q, 0, none⟩), .agg #[.int .i64 z.at_, .int .i64 z.n, .int .i64 z.time]] w fun e w' => e = .returned (.bool false) ∧ Ext w w' := by
  clear h
  have k1 : ¬ z.at_ < 0 := by omega
  have k2 : ¬ (16777216 : Int) < z.at_ := by omega
  clear a1
  go_enter Try.func15, Try.ntmps15
  go_upto_region 1 with (fail)
  refine wp_region_grow (by kernel_rfl) (by kernel_rfl) (by first | (simp only [List.append]; rfl) | rfl) ?_
  (repeat (go_big_quiet_step (fail)))
  refine wpQuiet_nil ?_
  intro wq hq
  obtain ⟨d, rfl⟩ := hq
  go_wp2
  go_ret
  exact ⟨rfl, (by repeat (first | (with_reducible exact Ext.refl _) | (with_reducible refine Ext.undrew ?_) | (with_reducible refine Ext.grow ?_ _) | (with_reducible refine Ext.drew ?_) | (with_reducible refine Ext.drewN ?_ _) | (with_reducible refine Ext.alloc ?_ _) | (with_reducible assumption) | ((with_reducible refine Ext.setCell ?_ ?_ _); rotate_left; (first | exact Nat.le_refl _ | ((try dsimp only); (try simp only [World.size_alloc, grow_size, World.size_setCell]); omega)))))⟩
set_option maxRecDepth 100000 in
set_option maxHeartbeats 4000000 in
theorem rqput_no4 (q base : Nat) (full : Int) (v : Value) (l : List Hd) (w : World) (h : Rq w q base full v l) (z : Hd) (a1 : 0 ≤ z.at_ ∧ z.at_ ≤ 16777216) (k4 : (16777216 : Int) < z.n) :
    Calls Try.prog 15 #[.pointer (some ⟨q, 0, none⟩), .agg #[.int .i64 z.at_, .int .i64 z.n, .int .i64 z.time]] w fun e w' => e = .returned (.bool false) ∧ Ext w w' := by
  clear h
  have k1 : ¬ z.at_ < 0 := by omega
  have k2 : ¬ (16777216 : Int) < z.at_ := by omega
  have k3 : ¬ z.n < 0 := by omega
  clear a1
  go_enter Try.func15, Try.ntmps15
  go_upto_region 1 with (fail)
  refine wp_region_grow (by kernel_rfl) (by kernel_rfl) (by first | (simp only [List.append]; rfl) | rfl) ?_
  (repeat (go_big_quiet_step (fail)))
  refine wpQuiet_nil ?_
  intro wq hq
  obtain ⟨d, rfl⟩ := hq
  go_wp2
  go_ret
  exact ⟨rfl, (by repeat (first | (with_reducible exact Ext.refl _) | (with_reducible refine Ext.undrew ?_) | (with_reducible refine Ext.grow ?_ _) | (with_reducible refine Ext.drew ?_) | (with_reducible refine Ext.drewN ?_ _) | (with_reducible refine Ext.alloc ?_ _) | (with_reducible assumption) | ((with_reducible refine Ext.setCell ?_ ?_ _); rotate_left; (first | exact Nat.le_refl _ | ((try dsimp only); (try simp only [World.size_alloc, grow_size, World.size_setCell]); omega)))))⟩
set_option maxRecDepth 100000 in
set_option maxHeartbeats 4000000 in
theorem rqput_no5 (q base : Nat) (full : Int) (v : Value) (l : List Hd) (w : World) (h : Rq w q base full v l) (z : Hd) (a1 : 0 ≤ z.at_ ∧ z.at_ ≤ 16777216) (a2 : 0 ≤ z.n ∧ z.n ≤ 16777216) (k5 : z.time < 0) :
    Calls Try.prog 15 #[.pointer (some ⟨q, 0, none⟩), .agg #[.int .i64 z.at_, .int .i64 z.n, .int .i64 z.time]] w fun e w' => e = .returned (.bool false) ∧ Ext w w' := by
  clear h
  have k1 : ¬ z.at_ < 0 := by omega
  have k2 : ¬ (16777216 : Int) < z.at_ := by omega
  have k3 : ¬ z.n < 0 := by omega
  have k4 : ¬ (16777216 : Int) < z.n := by omega
  clear a1 a2
  go_enter Try.func15, Try.ntmps15
  go_upto_region 1 with (fail)
  refine wp_region_grow (by kernel_rfl) (by kernel_rfl) (by first | (simp only [List.append]; rfl) | rfl) ?_
  (repeat (go_big_quiet_step (fail)))
  refine wpQuiet_nil ?_
  intro wq hq
  obtain ⟨d, rfl⟩ := hq
  go_wp2
  go_ret
  exact ⟨rfl, (by repeat (first | (with_reducible exact Ext.refl _) | (with_reducible refine Ext.undrew ?_) | (with_reducible refine Ext.grow ?_ _) | (with_reducible refine Ext.drew ?_) | (with_reducible refine Ext.drewN ?_ _) | (with_reducible refine Ext.alloc ?_ _) | (with_reducible assumption) | ((with_reducible refine Ext.setCell ?_ ?_ _); rotate_left; (first | exact Nat.le_refl _ | ((try dsimp only); (try simp only [World.size_alloc, grow_size, World.size_setCell]); omega)))))⟩
set_option maxRecDepth 100000 in
set_option maxHeartbeats 4000000 in
theorem rqput_no6 (q base : Nat) (full : Int) (v : Value) (l : List Hd) (w : World) (h : Rq w q base full v l) (z : Hd) (a1 : 0 ≤ z.at_ ∧ z.at_ ≤ 16777216) (a2 : 0 ≤ z.n ∧ z.n ≤ 16777216) (h6 : (2199023255552 : Int) < z.time) :
    Calls Try.prog 15 #[.pointer (some ⟨q, 0, none⟩), .agg #[.int .i64 z.at_, .int .i64 z.n, .int .i64 z.time]] w fun e w' => e = .returned (.bool false) ∧ Ext w w' := by
  clear h
  have k1 : ¬ z.at_ < 0 := by omega
  have k2 : ¬ (16777216 : Int) < z.at_ := by omega
  have k3 : ¬ z.n < 0 := by omega
  have k4 : ¬ (16777216 : Int) < z.n := by omega
  have k5 : ¬ z.time < 0 := by omega
  clear a1 a2
  go_enter Try.func15, Try.ntmps15
  go_upto_region 1 with (fail)
  refine wp_region_grow (by kernel_rfl) (by kernel_rfl) (by first | (simp only [List.append]; rfl) | rfl) ?_
  (repeat (go_big_quiet_step (fail)))
  refine wpQuiet_nil ?_
  intro wq hq
  obtain ⟨d, rfl⟩ := hq
  go_wp2
  go_ret
  exact ⟨rfl, (by repeat (first | (with_reducible exact Ext.refl _) | (with_reducible refine Ext.undrew ?_) | (with_reducible refine Ext.grow ?_ _) | (with_reducible refine Ext.drew ?_) | (with_reducible refine Ext.drewN ?_ _) | (with_reducible refine Ext.alloc ?_ _) | (with_reducible assumption) | ((with_reducible refine Ext.setCell ?_ ?_ _); rotate_left; (first | exact Nat.le_refl _ | ((try dsimp only); (try simp only [World.size_alloc, grow_size, World.size_setCell]); omega)))))⟩
set_option maxRecDepth 100000 in
set_option maxHeartbeats 4000000 in
theorem rqput_no7 (q base : Nat) (full : Int) (v : Value) (l : List Hd) (w : World) (h : Rq w q base full v l) (z : Hd) (a1 : 0 ≤ z.at_ ∧ z.at_ ≤ 16777216) (a2 : 0 ≤ z.n ∧ z.n ≤ 16777216) (k5 : ¬ z.time < 0) (h6 : ¬ (2199023255552 : Int) < z.time) (m : Nat) (hm : l.length = m + 1) (hl : m + 1 ≤ 1000000) (h5 : z.time < lastT l) :
    Calls Try.prog 15 #[.pointer (some ⟨q, 0, none⟩), .agg #[.int .i64 z.at_, .int .i64 z.n, .int .i64 z.time]] w fun e w' => e = .returned (.bool false) ∧ Ext w w' := by
  obtain ⟨A, ca, rfl, hca, _⟩ := h.2.2.2.1.shape
  obtain ⟨hq, ⟨b0, b1⟩, _, ho, _⟩ := h
  have k1 : ¬ z.at_ < 0 := by omega
  have k2 : ¬ (16777216 : Int) < z.at_ := by omega
  have k3 : ¬ z.n < 0 := by omega
  have k4 : ¬ (16777216 : Int) < z.n := by omega
  clear a1 a2
  obtain ⟨g, o, e, hgb, hg, hcell, _⟩ := ho.at_ rfl (by omega)
  have hT := lastT_at hm
  have hc := hcell (m * 3 + 2) (.int .i64 (lastT l)) (by rw [hT, hdList_at l m 2 (by omega) (by omega)]; rfl)
  rw [hm, e] at b1
  rw [hm] at hca
  have hm0 : (0 : Int) ≤ (m : Int) := by omega
  have hm1 : (m : Int) < (m : Int) + 1 := by omega
  have hm2 : (0 : Int) < (m : Int) + 1 := by omega
  have hmb : (m : Int) ≤ 1000000 := by omega
  rw [← Nat.add_assoc] at hc
  generalize lastT l = T at hc h5
  clear hT hcell ho e hm
  go_enter Try.func15, Try.ntmps15
  go_upto_region 1 with (fail)
  refine wp_region_grow (by kernel_rfl) (by kernel_rfl) (by first | (simp only [List.append]; rfl) | rfl) ?_
  (repeat (go_big_quiet_step (fail)))
  refine wpQuiet_nil ?_
  intro wq hq
  obtain ⟨d, rfl⟩ := hq
  go_wp2
  go_ret
  exact ⟨rfl, (by repeat (first | (with_reducible exact Ext.refl _) | (with_reducible refine Ext.undrew ?_) | (with_reducible refine Ext.grow ?_ _) | (with_reducible refine Ext.drew ?_) | (with_reducible refine Ext.drewN ?_ _) | (with_reducible refine Ext.alloc ?_ _) | (with_reducible assumption) | ((with_reducible refine Ext.setCell ?_ ?_ _); rotate_left; (first | exact Nat.le_refl _ | ((try dsimp only); (try simp only [World.size_alloc, grow_size, World.size_setCell]); omega)))))⟩
theorem lastT_nn {l : List Hd} (h : ∀ x ∈ l, 0 ≤ x.time ∧ x.time ≤ 2199023255552) : 0 ≤ lastT l := by
  rcases hm : l.length with _ | m
  · rw [List.eq_nil_of_length_eq_zero hm]; exact Int.le_refl 0
  · rw [lastT_at hm]; exact (h _ (List.getElem_mem _)).1
theorem rqput_no (q base : Nat) (full : Int) (v : Value) (l : List Hd) (w : World) (h : Rq w q base full v l) (hl : l.length ≤ 1000000) (ht : ∀ x ∈ l, 0 ≤ x.time ∧ x.time ≤ 2199023255552) (z : Hd) (hok : okQ l z = false) :
    Calls Try.prog 15 #[.pointer (some ⟨q, 0, none⟩), .agg #[.int .i64 z.at_, .int .i64 z.n, .int .i64 z.time]] w fun e w' => e = .returned (.bool false) ∧ Ext w w' := by
  by_cases k1 : z.at_ < 0
  · exact rqput_no1 q base full v l w h z k1
  by_cases k2 : (16777216 : Int) < z.at_
  · exact rqput_no2 q base full v l w h z k2
  by_cases k3 : z.n < 0
  · exact rqput_no3 q base full v l w h z ⟨by omega, by omega⟩ k3
  by_cases k4 : (16777216 : Int) < z.n
  · exact rqput_no4 q base full v l w h z ⟨by omega, by omega⟩ k4
  by_cases k5 : z.time < 0
  · exact rqput_no5 q base full v l w h z ⟨by omega, by omega⟩ ⟨by omega, by omega⟩ k5
  by_cases k6 : (2199023255552 : Int) < z.time
  · exact rqput_no6 q base full v l w h z ⟨by omega, by omega⟩ ⟨by omega, by omega⟩ k6
  by_cases k7 : z.time < lastT l
  · rcases hm : l.length with _ | m
    · rw [List.eq_nil_of_length_eq_zero hm] at k7
      exact absurd k7 k5
    · exact rqput_no7 q base full v l w h z ⟨by omega, by omega⟩ ⟨by omega, by omega⟩ k5 k6 m hm (by omega) k7
  · refine absurd hok ?_
    simp only [okQ, decide_eq_true (show 0 ≤ z.at_ by omega), decide_eq_true (show z.at_ ≤ 16777216 by omega), decide_eq_true (show 0 ≤ z.n by omega), decide_eq_true (show z.n ≤ 16777216 by omega), decide_eq_false k7, decide_eq_false k6]
    decide

end Go.Proofs.Ytlbemgkdpagoiaa
