/- Layer 12: Give that is refused. -/
import Derived.Test.YtkjakaoimbmcjaaExtL
namespace Go.Proofs.Ytkjakaoimbmcjaa
set_option linter.unusedSimpArgs false
set_option linter.unusedVariables false
open Go.RowKit

/-- Reads alone, one behind the other. -/
inductive IsOrd : Ord Oper → List Oper → Prop
  | nil : IsOrd .done []
  | cons {o : Oper} {r : Ord Oper} {l : List Oper} (h : IsOrd r l) : IsOrd (.rd o r) (o :: l)
theorem step_quiet {P : Program} {ops : Array Oper} {Q : Exit → Act → World → Prop} {W w : World} {r : Ord Oper} {l : List Oper} (hr : IsOrd r l) : ∀ {a : Act}, wpQuiet P ops (Grown W) (fun a' => Q .normal a' w) l a → wpStep P ops Q r W a w := by
  induction hr with
  | nil => exact fun h => h
  | @cons o r l hr ih =>
    intro a h
    unfold wpQuiet at h
    unfold wpStep
    split
    · rename_i hc
      rw [if_pos hc] at h
      obtain ⟨v, h1, h2⟩ := h
      exact ⟨v, h1, ih h2⟩
    · rename_i hc
      rw [if_neg hc] at h
      exact ih h
set_option maxRecDepth 100000 in
set_option maxHeartbeats 4000000 in
theorem give_n1 (q base : Nat) (fr to : Int) (v : Value) (l : List Pr) (w : World) (h : Fr w q base fr to v l) (at_ n : Int) (hg : [at_, n].all g16 = false) : Calls Try.prog 13 #[.pointer (some ⟨q, 0, none⟩), .int .i64 at_, .int .i64 n] w fun e w' => e = .returned (.bool false) ∧ Ext w w' := by
  obtain ⟨A, ca, rfl, hca, hnil⟩ := h.2.2.2.1.shape
  have HQ := hid h
  have hqw := h.1
  clear h
  have HG := hid hg
  clear hg
  go_enter Try.func13, Try.ntmps13
  go_upto_region 1 with (fail)
  refine wp_gen (fun W => Hid (Ext w W) ∧ Hid (W.cell? ⟨w.heap.size, 0, none⟩ = some (.pointer (some ⟨q, 0, none⟩))) ∧ Hid (W.cell? ⟨w.heap.size + 1, 0, none⟩ = some (.int .i64 at_)) ∧ w.heap.size + 1 < W.heap.size) ⟨hid (by repeat (first | (with_reducible exact Ext.refl _) | (with_reducible refine Ext.undrew ?_) | (with_reducible refine Ext.grow ?_ _) | (with_reducible refine Ext.drew ?_) | (with_reducible refine Ext.drewN ?_ _) | (with_reducible refine Ext.alloc ?_ _) | (with_reducible assumption) | ((with_reducible refine Ext.setCell ?_ ?_ _); rotate_left; (first | exact Nat.le_refl _ | ((try dsimp only); (try simp only [World.size_alloc, grow_size, World.size_setCell]); omega))))), hid (by simp [go_sem]), hid (by simp [go_sem]), by simp⟩ ?_
  rintro W0 ⟨hx0, hF0, hA0, hBl⟩
  obtain ⟨BF, hBF⟩ : ∃ x, w.heap.size = x := ⟨_, rfl⟩
  obtain ⟨BA, hBA⟩ : ∃ x, w.heap.size + 1 = x := ⟨_, rfl⟩
  rw [hBF] at hF0 ⊢
  rw [hBF] at hBA hBl
  rw [← hBF] at hBA
  (try rw [hBF] at hBA)
  rw [hBA] at hBl ⊢
  have hA0 : Hid (W0.cell? ⟨BA, 0, none⟩ = some (.int .i64 at_)) := hid (by have := hA0.out; rwa [hBF, hBA] at this)
  have hqBF : q < BF := by omega
  have hfBA : BF < BA := by omega
  refine wp_region_step (.rd 0 (.rd 1 (.ac 2 (.ac 3 (.rd 4 (.rd 5 (.rd 6 (.rd 7 (.rd 8 (.rd 9 (.rd 10 (.rd 11 (.rd 12 (.rd 13 (.rd 14 (.rd 15 (.rd 16 (.rd 17 (.rd 18 (.rd 19 (.rd 20 (.rd 21 (.rd 22 (.rd 23 (.rd 24 (.rd 25 (.rd 26 (.rd 27 (.rd 28 (.rd 29 (.rd 30 (.rd 31 (.rd 32 (.rd 33 (.rd 34 .done))))))))))))))))))))))))))))))))))) (by kernel_rfl) (by kernel_rfl) (fun _ _ d _ _ h => by cases d <;> exact h) (by simp only [Ord.map, nthOp, List.append]; rfl) ?_
  intro d0
  have hx1 : Ext W0 (Go.Proofs.Ytkjakaoimbmcjaa.grow W0 d0) := Ext.grow (Ext.refl _) d0
  have hx2 := hid (hx0.out.trans hx1)
  have hF := (hx1.cells BF 0 (by omega)).trans hF0.out
  have hA := (hx1.cells BA 0 hBl).trans hA0.out
  have hBl1 := Nat.lt_of_lt_of_le hBl hx1.size
  generalize Go.Proofs.Ytkjakaoimbmcjaa.grow W0 d0 = W at hx2 hF hA hBl1 ⊢
  clear hx0 hx1 hF0 hA0 hBl
  have hBl2 : BF < W.heap.size := by omega
  have HQ2 := hid (HQ.out.ext hx2.out)
  have hq1 := HQ2.out.1
  obtain ⟨a0, a1, a2⟩ := HQ2.out.2.1
  have hqF : ¬ q = BF := by omega
  iterate 2 (refine step_read (by rfl) (fun K hK => ?_); go_big_quiet_op; refine hK _ ?_; clear hK K)
  iterate 2 (refine step_act (by rfl) (fun K hK => ?_); go_wp2_with (first | (go_at_call 22; refine (gran_ (some ⟨W.heap.size, 0, none⟩) 2 [at_, n] _ (slAtNew W [.int .i64 at_, .int .i64 n] _) (by simp)).mono ?_; rw [HG.out]; rintro e w1 ⟨rfl, hx1⟩)); refine ⟨_, (by repeat (first | (with_reducible exact Ext.refl _) | (with_reducible refine Ext.undrew ?_) | (with_reducible refine Ext.grow ?_ _) | (with_reducible refine Ext.drew ?_) | (with_reducible refine Ext.drewN ?_ _) | (with_reducible refine Ext.alloc ?_ _) | (with_reducible assumption) | ((with_reducible refine Ext.setCell ?_ ?_ _); rotate_left; (first | exact Nat.le_refl _ | ((try dsimp only); (try simp only [World.size_alloc, grow_size, World.size_setCell]); omega))))), Ext.refl _, ?_⟩)
  have hxW := (Ext.alloc (Ext.refl W) (.cells #[.int .i64 at_, .int .i64 n] 3)).trans hx1
  have HQ3 := hid (HQ2.out.ext hxW)
  have hF3 := (hxW.cells BF 0 hBl2).trans hF
  have hA3 := (hxW.cells BA 0 hBl1).trans hA
  have hBF3 := Nat.lt_of_lt_of_le hBl2 hxW.size
  have hBA3 := Nat.lt_of_lt_of_le hBl1 hxW.size
  have hxw3 := hid (hx2.out.trans hxW)
  clear hF hA hBl1 hBl2 hx1 hxW hx2 a0 a1 a2 hq1
  have hq1 := HQ3.out.1
  obtain ⟨a0, a1, a2⟩ := HQ3.out.2.1
  apply step_quiet
  repeat (first | exact IsOrd.nil | apply IsOrd.cons)
  (repeat (go_big_quiet_step (fail)))
  refine wpQuiet_nil ?_
  go_wp2
  go_ret
  exact ⟨rfl, hxw3.out⟩
set_option maxRecDepth 100000 in
set_option maxHeartbeats 4000000 in
theorem give_n2 (q base : Nat) (fr to : Int) (v : Value) (l : List Pr) (w : World) (h : Fr w q base fr to v l) (at_ n : Int) (hg : [at_, n].all g16 = true) (k0 : n < 1) : Calls Try.prog 13 #[.pointer (some ⟨q, 0, none⟩), .int .i64 at_, .int .i64 n] w fun e w' => e = .returned (.bool false) ∧ Ext w w' := by
  obtain ⟨A, ca, rfl, hca, hnil⟩ := h.2.2.2.1.shape
  have HQ := hid h
  have hqw := h.1
  clear h
  have HG := hid hg
  clear hg
  go_enter Try.func13, Try.ntmps13
  go_upto_region 1 with (fail)
  refine wp_gen (fun W => Hid (Ext w W) ∧ Hid (W.cell? ⟨w.heap.size, 0, none⟩ = some (.pointer (some ⟨q, 0, none⟩))) ∧ Hid (W.cell? ⟨w.heap.size + 1, 0, none⟩ = some (.int .i64 at_)) ∧ w.heap.size + 1 < W.heap.size) ⟨hid (by repeat (first | (with_reducible exact Ext.refl _) | (with_reducible refine Ext.undrew ?_) | (with_reducible refine Ext.grow ?_ _) | (with_reducible refine Ext.drew ?_) | (with_reducible refine Ext.drewN ?_ _) | (with_reducible refine Ext.alloc ?_ _) | (with_reducible assumption) | ((with_reducible refine Ext.setCell ?_ ?_ _); rotate_left; (first | exact Nat.le_refl _ | ((try dsimp only); (try simp only [World.size_alloc, grow_size, World.size_setCell]); omega))))), hid (by simp [go_sem]), hid (by simp [go_sem]), by simp⟩ ?_
  rintro W0 ⟨hx0, hF0, hA0, hBl⟩
  obtain ⟨BF, hBF⟩ : ∃ x, w.heap.size = x := ⟨_, rfl⟩
  obtain ⟨BA, hBA⟩ : ∃ x, w.heap.size + 1 = x := ⟨_, rfl⟩
  rw [hBF] at hF0 ⊢
  rw [hBF] at hBA hBl
  rw [← hBF] at hBA
  (try rw [hBF] at hBA)
  rw [hBA] at hBl ⊢
  have hA0 : Hid (W0.cell? ⟨BA, 0, none⟩ = some (.int .i64 at_)) := hid (by have := hA0.out; rwa [hBF, hBA] at this)
  have hqBF : q < BF := by omega
  have hfBA : BF < BA := by omega
  refine wp_region_step (.rd 0 (.rd 1 (.ac 2 (.ac 3 (.rd 4 (.rd 5 (.rd 6 (.rd 7 (.rd 8 (.rd 9 (.rd 10 (.rd 11 (.rd 12 (.rd 13 (.rd 14 (.rd 15 (.rd 16 (.rd 17 (.rd 18 (.rd 19 (.rd 20 (.rd 21 (.rd 22 (.rd 23 (.rd 24 (.rd 25 (.rd 26 (.rd 27 (.rd 28 (.rd 29 (.rd 30 (.rd 31 (.rd 32 (.rd 33 (.rd 34 .done))))))))))))))))))))))))))))))))))) (by kernel_rfl) (by kernel_rfl) (fun _ _ d _ _ h => by cases d <;> exact h) (by simp only [Ord.map, nthOp, List.append]; rfl) ?_
  intro d0
  have hx1 : Ext W0 (Go.Proofs.Ytkjakaoimbmcjaa.grow W0 d0) := Ext.grow (Ext.refl _) d0
  have hx2 := hid (hx0.out.trans hx1)
  have hF := (hx1.cells BF 0 (by omega)).trans hF0.out
  have hA := (hx1.cells BA 0 hBl).trans hA0.out
  have hBl1 := Nat.lt_of_lt_of_le hBl hx1.size
  generalize Go.Proofs.Ytkjakaoimbmcjaa.grow W0 d0 = W at hx2 hF hA hBl1 ⊢
  clear hx0 hx1 hF0 hA0 hBl
  have hBl2 : BF < W.heap.size := by omega
  have HQ2 := hid (HQ.out.ext hx2.out)
  have hq1 := HQ2.out.1
  obtain ⟨a0, a1, a2⟩ := HQ2.out.2.1
  have hqF : ¬ q = BF := by omega
  iterate 2 (refine step_read (by rfl) (fun K hK => ?_); go_big_quiet_op; refine hK _ ?_; clear hK K)
  iterate 2 (refine step_act (by rfl) (fun K hK => ?_); go_wp2_with (first | (go_at_call 22; refine (gran_ (some ⟨W.heap.size, 0, none⟩) 2 [at_, n] _ (slAtNew W [.int .i64 at_, .int .i64 n] _) (by simp)).mono ?_; rw [HG.out]; rintro e w1 ⟨rfl, hx1⟩)); refine ⟨_, (by repeat (first | (with_reducible exact Ext.refl _) | (with_reducible refine Ext.undrew ?_) | (with_reducible refine Ext.grow ?_ _) | (with_reducible refine Ext.drew ?_) | (with_reducible refine Ext.drewN ?_ _) | (with_reducible refine Ext.alloc ?_ _) | (with_reducible assumption) | ((with_reducible refine Ext.setCell ?_ ?_ _); rotate_left; (first | exact Nat.le_refl _ | ((try dsimp only); (try simp only [World.size_alloc, grow_size, World.size_setCell]); omega))))), Ext.refl _, ?_⟩)
  have hxW := (Ext.alloc (Ext.refl W) (.cells #[.int .i64 at_, .int .i64 n] 3)).trans hx1
  have HQ3 := hid (HQ2.out.ext hxW)
  have hF3 := (hxW.cells BF 0 hBl2).trans hF
  have hA3 := (hxW.cells BA 0 hBl1).trans hA
  have hBF3 := Nat.lt_of_lt_of_le hBl2 hxW.size
  have hBA3 := Nat.lt_of_lt_of_le hBl1 hxW.size
  have hxw3 := hid (hx2.out.trans hxW)
  clear hF hA hBl1 hBl2 hx1 hxW hx2 a0 a1 a2 hq1
  have hq1 := HQ3.out.1
  obtain ⟨a0, a1, a2⟩ := HQ3.out.2.1
  apply step_quiet
  repeat (first | exact IsOrd.nil | apply IsOrd.cons)
  (repeat (go_big_quiet_step (fail)))
  refine wpQuiet_nil ?_
  go_wp2
  go_ret
  exact ⟨rfl, hxw3.out⟩
set_option maxRecDepth 100000 in
set_option maxHeartbeats 4000000 in
theorem give_n3 (q base : Nat) (fr to : Int) (v : Value) (l : List Pr) (w : World) (h : Fr w q base fr to v l) (at_ n : Int) (hg : [at_, n].all g16 = true) (h0 : 1 ≤ n) (k1 : at_ < fr) : Calls Try.prog 13 #[.pointer (some ⟨q, 0, none⟩), .int .i64 at_, .int .i64 n] w fun e w' => e = .returned (.bool false) ∧ Ext w w' := by
  obtain ⟨A, ca, rfl, hca, hnil⟩ := h.2.2.2.1.shape
  have HQ := hid h
  have hqw := h.1
  clear h
  have HG := hid hg
  clear hg
  go_enter Try.func13, Try.ntmps13
  go_upto_region 1 with (fail)
  refine wp_gen (fun W => Hid (Ext w W) ∧ Hid (W.cell? ⟨w.heap.size, 0, none⟩ = some (.pointer (some ⟨q, 0, none⟩))) ∧ Hid (W.cell? ⟨w.heap.size + 1, 0, none⟩ = some (.int .i64 at_)) ∧ w.heap.size + 1 < W.heap.size) ⟨hid (by repeat (first | (with_reducible exact Ext.refl _) | (with_reducible refine Ext.undrew ?_) | (with_reducible refine Ext.grow ?_ _) | (with_reducible refine Ext.drew ?_) | (with_reducible refine Ext.drewN ?_ _) | (with_reducible refine Ext.alloc ?_ _) | (with_reducible assumption) | ((with_reducible refine Ext.setCell ?_ ?_ _); rotate_left; (first | exact Nat.le_refl _ | ((try dsimp only); (try simp only [World.size_alloc, grow_size, World.size_setCell]); omega))))), hid (by simp [go_sem]), hid (by simp [go_sem]), by simp⟩ ?_
  rintro W0 ⟨hx0, hF0, hA0, hBl⟩
  obtain ⟨BF, hBF⟩ : ∃ x, w.heap.size = x := ⟨_, rfl⟩
  obtain ⟨BA, hBA⟩ : ∃ x, w.heap.size + 1 = x := ⟨_, rfl⟩
  rw [hBF] at hF0 ⊢
  rw [hBF] at hBA hBl
  rw [← hBF] at hBA
  (try rw [hBF] at hBA)
  rw [hBA] at hBl ⊢
  have hA0 : Hid (W0.cell? ⟨BA, 0, none⟩ = some (.int .i64 at_)) := hid (by have := hA0.out; rwa [hBF, hBA] at this)
  have hqBF : q < BF := by omega
  have hfBA : BF < BA := by omega
  refine wp_region_step (.rd 0 (.rd 1 (.ac 2 (.ac 3 (.rd 4 (.rd 5 (.rd 6 (.rd 7 (.rd 8 (.rd 9 (.rd 10 (.rd 11 (.rd 12 (.rd 13 (.rd 14 (.rd 15 (.rd 16 (.rd 17 (.rd 18 (.rd 19 (.rd 20 (.rd 21 (.rd 22 (.rd 23 (.rd 24 (.rd 25 (.rd 26 (.rd 27 (.rd 28 (.rd 29 (.rd 30 (.rd 31 (.rd 32 (.rd 33 (.rd 34 .done))))))))))))))))))))))))))))))))))) (by kernel_rfl) (by kernel_rfl) (fun _ _ d _ _ h => by cases d <;> exact h) (by simp only [Ord.map, nthOp, List.append]; rfl) ?_
  intro d0
  have hx1 : Ext W0 (Go.Proofs.Ytkjakaoimbmcjaa.grow W0 d0) := Ext.grow (Ext.refl _) d0
  have hx2 := hid (hx0.out.trans hx1)
  have hF := (hx1.cells BF 0 (by omega)).trans hF0.out
  have hA := (hx1.cells BA 0 hBl).trans hA0.out
  have hBl1 := Nat.lt_of_lt_of_le hBl hx1.size
  generalize Go.Proofs.Ytkjakaoimbmcjaa.grow W0 d0 = W at hx2 hF hA hBl1 ⊢
  clear hx0 hx1 hF0 hA0 hBl
  have hBl2 : BF < W.heap.size := by omega
  have HQ2 := hid (HQ.out.ext hx2.out)
  have hq1 := HQ2.out.1
  obtain ⟨a0, a1, a2⟩ := HQ2.out.2.1
  have hqF : ¬ q = BF := by omega
  iterate 2 (refine step_read (by rfl) (fun K hK => ?_); go_big_quiet_op; refine hK _ ?_; clear hK K)
  iterate 2 (refine step_act (by rfl) (fun K hK => ?_); go_wp2_with (first | (go_at_call 22; refine (gran_ (some ⟨W.heap.size, 0, none⟩) 2 [at_, n] _ (slAtNew W [.int .i64 at_, .int .i64 n] _) (by simp)).mono ?_; rw [HG.out]; rintro e w1 ⟨rfl, hx1⟩)); refine ⟨_, (by repeat (first | (with_reducible exact Ext.refl _) | (with_reducible refine Ext.undrew ?_) | (with_reducible refine Ext.grow ?_ _) | (with_reducible refine Ext.drew ?_) | (with_reducible refine Ext.drewN ?_ _) | (with_reducible refine Ext.alloc ?_ _) | (with_reducible assumption) | ((with_reducible refine Ext.setCell ?_ ?_ _); rotate_left; (first | exact Nat.le_refl _ | ((try dsimp only); (try simp only [World.size_alloc, grow_size, World.size_setCell]); omega))))), Ext.refl _, ?_⟩)
  have hxW := (Ext.alloc (Ext.refl W) (.cells #[.int .i64 at_, .int .i64 n] 3)).trans hx1
  have HQ3 := hid (HQ2.out.ext hxW)
  have hF3 := (hxW.cells BF 0 hBl2).trans hF
  have hA3 := (hxW.cells BA 0 hBl1).trans hA
  have hBF3 := Nat.lt_of_lt_of_le hBl2 hxW.size
  have hBA3 := Nat.lt_of_lt_of_le hBl1 hxW.size
  have hxw3 := hid (hx2.out.trans hxW)
  clear hF hA hBl1 hBl2 hx1 hxW hx2 a0 a1 a2 hq1
  have hq1 := HQ3.out.1
  obtain ⟨a0, a1, a2⟩ := HQ3.out.2.1
  have k0 : ¬ n < 1 := by omega
  apply step_quiet
  repeat (first | exact IsOrd.nil | apply IsOrd.cons)
  (repeat (go_big_quiet_step (fail)))
  refine wpQuiet_nil ?_
  go_wp2
  go_ret
  exact ⟨rfl, hxw3.out⟩
set_option maxRecDepth 100000 in
set_option maxHeartbeats 4000000 in
theorem give_n4 (q base : Nat) (fr to : Int) (v : Value) (l : List Pr) (w : World) (h : Fr w q base fr to v l) (at_ n : Int) (hg : [at_, n].all g16 = true) (h0 : 1 ≤ n) (h1 : fr ≤ at_) (k2 : to < at_) : Calls Try.prog 13 #[.pointer (some ⟨q, 0, none⟩), .int .i64 at_, .int .i64 n] w fun e w' => e = .returned (.bool false) ∧ Ext w w' := by
  obtain ⟨A, ca, rfl, hca, hnil⟩ := h.2.2.2.1.shape
  have HQ := hid h
  have hqw := h.1
  clear h
  have HG := hid hg
  clear hg
  go_enter Try.func13, Try.ntmps13
  go_upto_region 1 with (fail)
  refine wp_gen (fun W => Hid (Ext w W) ∧ Hid (W.cell? ⟨w.heap.size, 0, none⟩ = some (.pointer (some ⟨q, 0, none⟩))) ∧ Hid (W.cell? ⟨w.heap.size + 1, 0, none⟩ = some (.int .i64 at_)) ∧ w.heap.size + 1 < W.heap.size) ⟨hid (by repeat (first | (with_reducible exact Ext.refl _) | (with_reducible refine Ext.undrew ?_) | (with_reducible refine Ext.grow ?_ _) | (with_reducible refine Ext.drew ?_) | (with_reducible refine Ext.drewN ?_ _) | (with_reducible refine Ext.alloc ?_ _) | (with_reducible assumption) | ((with_reducible refine Ext.setCell ?_ ?_ _); rotate_left; (first | exact Nat.le_refl _ | ((try dsimp only); (try simp only [World.size_alloc, grow_size, World.size_setCell]); omega))))), hid (by simp [go_sem]), hid (by simp [go_sem]), by simp⟩ ?_
  rintro W0 ⟨hx0, hF0, hA0, hBl⟩
  obtain ⟨BF, hBF⟩ : ∃ x, w.heap.size = x := ⟨_, rfl⟩
  obtain ⟨BA, hBA⟩ : ∃ x, w.heap.size + 1 = x := ⟨_, rfl⟩
  rw [hBF] at hF0 ⊢
  rw [hBF] at hBA hBl
  rw [← hBF] at hBA
  (try rw [hBF] at hBA)
  rw [hBA] at hBl ⊢
  have hA0 : Hid (W0.cell? ⟨BA, 0, none⟩ = some (.int .i64 at_)) := hid (by have := hA0.out; rwa [hBF, hBA] at this)
  have hqBF : q < BF := by omega
  have hfBA : BF < BA := by omega
  refine wp_region_step (.rd 0 (.rd 1 (.ac 2 (.ac 3 (.rd 4 (.rd 5 (.rd 6 (.rd 7 (.rd 8 (.rd 9 (.rd 10 (.rd 11 (.rd 12 (.rd 13 (.rd 14 (.rd 15 (.rd 16 (.rd 17 (.rd 18 (.rd 19 (.rd 20 (.rd 21 (.rd 22 (.rd 23 (.rd 24 (.rd 25 (.rd 26 (.rd 27 (.rd 28 (.rd 29 (.rd 30 (.rd 31 (.rd 32 (.rd 33 (.rd 34 .done))))))))))))))))))))))))))))))))))) (by kernel_rfl) (by kernel_rfl) (fun _ _ d _ _ h => by cases d <;> exact h) (by simp only [Ord.map, nthOp, List.append]; rfl) ?_
  intro d0
  have hx1 : Ext W0 (Go.Proofs.Ytkjakaoimbmcjaa.grow W0 d0) := Ext.grow (Ext.refl _) d0
  have hx2 := hid (hx0.out.trans hx1)
  have hF := (hx1.cells BF 0 (by omega)).trans hF0.out
  have hA := (hx1.cells BA 0 hBl).trans hA0.out
  have hBl1 := Nat.lt_of_lt_of_le hBl hx1.size
  generalize Go.Proofs.Ytkjakaoimbmcjaa.grow W0 d0 = W at hx2 hF hA hBl1 ⊢
  clear hx0 hx1 hF0 hA0 hBl
  have hBl2 : BF < W.heap.size := by omega
  have HQ2 := hid (HQ.out.ext hx2.out)
  have hq1 := HQ2.out.1
  obtain ⟨a0, a1, a2⟩ := HQ2.out.2.1
  have hqF : ¬ q = BF := by omega
  iterate 2 (refine step_read (by rfl) (fun K hK => ?_); go_big_quiet_op; refine hK _ ?_; clear hK K)
  iterate 2 (refine step_act (by rfl) (fun K hK => ?_); go_wp2_with (first | (go_at_call 22; refine (gran_ (some ⟨W.heap.size, 0, none⟩) 2 [at_, n] _ (slAtNew W [.int .i64 at_, .int .i64 n] _) (by simp)).mono ?_; rw [HG.out]; rintro e w1 ⟨rfl, hx1⟩)); refine ⟨_, (by repeat (first | (with_reducible exact Ext.refl _) | (with_reducible refine Ext.undrew ?_) | (with_reducible refine Ext.grow ?_ _) | (with_reducible refine Ext.drew ?_) | (with_reducible refine Ext.drewN ?_ _) | (with_reducible refine Ext.alloc ?_ _) | (with_reducible assumption) | ((with_reducible refine Ext.setCell ?_ ?_ _); rotate_left; (first | exact Nat.le_refl _ | ((try dsimp only); (try simp only [World.size_alloc, grow_size, World.size_setCell]); omega))))), Ext.refl _, ?_⟩)
  have hxW := (Ext.alloc (Ext.refl W) (.cells #[.int .i64 at_, .int .i64 n] 3)).trans hx1
  have HQ3 := hid (HQ2.out.ext hxW)
  have hF3 := (hxW.cells BF 0 hBl2).trans hF
  have hA3 := (hxW.cells BA 0 hBl1).trans hA
  have hBF3 := Nat.lt_of_lt_of_le hBl2 hxW.size
  have hBA3 := Nat.lt_of_lt_of_le hBl1 hxW.size
  have hxw3 := hid (hx2.out.trans hxW)
  clear hF hA hBl1 hBl2 hx1 hxW hx2 a0 a1 a2 hq1
  have hq1 := HQ3.out.1
  obtain ⟨a0, a1, a2⟩ := HQ3.out.2.1
  have k0 : ¬ n < 1 := by omega
  have k1 : ¬ at_ < fr := by omega
  apply step_quiet
  repeat (first | exact IsOrd.nil | apply IsOrd.cons)
  (repeat (go_big_quiet_step (fail)))
  refine wpQuiet_nil ?_
  go_wp2
  go_ret
  exact ⟨rfl, hxw3.out⟩
set_option maxRecDepth 100000 in
set_option maxHeartbeats 4000000 in
theorem give_n5 (q base : Nat) (fr to : Int) (v : Value) (l : List Pr) (w : World) (h : Fr w q base fr to v l) (at_ n : Int) (hg : [at_, n].all g16 = true) (hb0 : 0 ≤ fr) (hb1 : to ≤ 16777216) (h0 : 1 ≤ n) (h1 : fr ≤ at_) (h2 : at_ ≤ to) (k3 : to - at_ < n) : Calls Try.prog 13 #[.pointer (some ⟨q, 0, none⟩), .int .i64 at_, .int .i64 n] w fun e w' => e = .returned (.bool false) ∧ Ext w w' := by
  obtain ⟨A, ca, rfl, hca, hnil⟩ := h.2.2.2.1.shape
  have HQ := hid h
  have hqw := h.1
  clear h
  have HG := hid hg
  clear hg
  go_enter Try.func13, Try.ntmps13
  go_upto_region 1 with (fail)
  refine wp_gen (fun W => Hid (Ext w W) ∧ Hid (W.cell? ⟨w.heap.size, 0, none⟩ = some (.pointer (some ⟨q, 0, none⟩))) ∧ Hid (W.cell? ⟨w.heap.size + 1, 0, none⟩ = some (.int .i64 at_)) ∧ w.heap.size + 1 < W.heap.size) ⟨hid (by repeat (first | (with_reducible exact Ext.refl _) | (with_reducible refine Ext.undrew ?_) | (with_reducible refine Ext.grow ?_ _) | (with_reducible refine Ext.drew ?_) | (with_reducible refine Ext.drewN ?_ _) | (with_reducible refine Ext.alloc ?_ _) | (with_reducible assumption) | ((with_reducible refine Ext.setCell ?_ ?_ _); rotate_left; (first | exact Nat.le_refl _ | ((try dsimp only); (try simp only [World.size_alloc, grow_size, World.size_setCell]); omega))))), hid (by simp [go_sem]), hid (by simp [go_sem]), by simp⟩ ?_
  rintro W0 ⟨hx0, hF0, hA0, hBl⟩
  obtain ⟨BF, hBF⟩ : ∃ x, w.heap.size = x := ⟨_, rfl⟩
  obtain ⟨BA, hBA⟩ : ∃ x, w.heap.size + 1 = x := ⟨_, rfl⟩
  rw [hBF] at hF0 ⊢
  rw [hBF] at hBA hBl
  rw [← hBF] at hBA
  (try rw [hBF] at hBA)
  rw [hBA] at hBl ⊢
  have hA0 : Hid (W0.cell? ⟨BA, 0, none⟩ = some (.int .i64 at_)) := hid (by have := hA0.out; rwa [hBF, hBA] at this)
  have hqBF : q < BF := by omega
  have hfBA : BF < BA := by omega
  refine wp_region_step (.rd 0 (.rd 1 (.ac 2 (.ac 3 (.rd 4 (.rd 5 (.rd 6 (.rd 7 (.rd 8 (.rd 9 (.rd 10 (.rd 11 (.rd 12 (.rd 13 (.rd 14 (.rd 15 (.rd 16 (.rd 17 (.rd 18 (.rd 19 (.rd 20 (.rd 21 (.rd 22 (.rd 23 (.rd 24 (.rd 25 (.rd 26 (.rd 27 (.rd 28 (.rd 29 (.rd 30 (.rd 31 (.rd 32 (.rd 33 (.rd 34 .done))))))))))))))))))))))))))))))))))) (by kernel_rfl) (by kernel_rfl) (fun _ _ d _ _ h => by cases d <;> exact h) (by simp only [Ord.map, nthOp, List.append]; rfl) ?_
  intro d0
  have hx1 : Ext W0 (Go.Proofs.Ytkjakaoimbmcjaa.grow W0 d0) := Ext.grow (Ext.refl _) d0
  have hx2 := hid (hx0.out.trans hx1)
  have hF := (hx1.cells BF 0 (by omega)).trans hF0.out
  have hA := (hx1.cells BA 0 hBl).trans hA0.out
  have hBl1 := Nat.lt_of_lt_of_le hBl hx1.size
  generalize Go.Proofs.Ytkjakaoimbmcjaa.grow W0 d0 = W at hx2 hF hA hBl1 ⊢
  clear hx0 hx1 hF0 hA0 hBl
  have hBl2 : BF < W.heap.size := by omega
  have HQ2 := hid (HQ.out.ext hx2.out)
  have hq1 := HQ2.out.1
  obtain ⟨a0, a1, a2⟩ := HQ2.out.2.1
  have hqF : ¬ q = BF := by omega
  iterate 2 (refine step_read (by rfl) (fun K hK => ?_); go_big_quiet_op; refine hK _ ?_; clear hK K)
  iterate 2 (refine step_act (by rfl) (fun K hK => ?_); go_wp2_with (first | (go_at_call 22; refine (gran_ (some ⟨W.heap.size, 0, none⟩) 2 [at_, n] _ (slAtNew W [.int .i64 at_, .int .i64 n] _) (by simp)).mono ?_; rw [HG.out]; rintro e w1 ⟨rfl, hx1⟩)); refine ⟨_, (by repeat (first | (with_reducible exact Ext.refl _) | (with_reducible refine Ext.undrew ?_) | (with_reducible refine Ext.grow ?_ _) | (with_reducible refine Ext.drew ?_) | (with_reducible refine Ext.drewN ?_ _) | (with_reducible refine Ext.alloc ?_ _) | (with_reducible assumption) | ((with_reducible refine Ext.setCell ?_ ?_ _); rotate_left; (first | exact Nat.le_refl _ | ((try dsimp only); (try simp only [World.size_alloc, grow_size, World.size_setCell]); omega))))), Ext.refl _, ?_⟩)
  have hxW := (Ext.alloc (Ext.refl W) (.cells #[.int .i64 at_, .int .i64 n] 3)).trans hx1
  have HQ3 := hid (HQ2.out.ext hxW)
  have hF3 := (hxW.cells BF 0 hBl2).trans hF
  have hA3 := (hxW.cells BA 0 hBl1).trans hA
  have hBF3 := Nat.lt_of_lt_of_le hBl2 hxW.size
  have hBA3 := Nat.lt_of_lt_of_le hBl1 hxW.size
  have hxw3 := hid (hx2.out.trans hxW)
  clear hF hA hBl1 hBl2 hx1 hxW hx2 a0 a1 a2 hq1
  have hq1 := HQ3.out.1
  obtain ⟨a0, a1, a2⟩ := HQ3.out.2.1
  have k0 : ¬ n < 1 := by omega
  have k1 : ¬ at_ < fr := by omega
  have k2 : ¬ to < at_ := by omega
  have hw : wrap64 (to - at_) = to - at_ := wrapP (by omega) (by omega)
  apply step_quiet
  repeat (first | exact IsOrd.nil | apply IsOrd.cons)
  (repeat (go_big_quiet_step (fail)))
  refine wpQuiet_nil ?_
  go_wp2
  go_ret
  exact ⟨rfl, hxw3.out⟩

end Go.Proofs.Ytkjakaoimbmcjaa
