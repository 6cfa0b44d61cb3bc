/- MhQua: QuaA QuaB QuaC QuaD QuaE QuaF QuaG QuaH QuaI QuaJ QuaK QuaL QuaM -/
import Derived.Test.YtoeiemeffiiidaaDoorMhExt
import Derived.Deep.DrawnRows
import Derived.Deep.Upon
import Derived.RangeFuncNested
import Derived.RangeFuncBound
import Derived.RangeFuncCalls
import Derived.RangeFuncLeaves
import Derived.Shelf.Abstract
import Derived.Shelf.RegionOpen
import Derived.WalkKit
import Derived.OwnWalkIn
import Derived.TacticsInMore
import Derived.LoopNIn
import Derived.LoopIn
import Derived.Deep.RegionHeld3
import Derived.Laws.BitsLemmas
namespace Go.Proofs.YtoeiemeffiiidaaDoor
set_option maxRecDepth 100000
set_option linter.unusedSimpArgs false
set_option linter.unusedVariables false
open Go.RowKit

/-- What was freed. -/
structure Hd where
  at_ : Int
  n : Int
  time : Int
instance : Inhabited Hd := ⟨⟨0, 0, 0⟩⟩
def Hd.cells (h : Hd) : List Value := [.int .i64 h.at_, .int .i64 h.n, .int .i64 h.time]
def hdList (l : List Hd) : List Value := l.flatMap Hd.cells
theorem hdList_length (l : List Hd) : (hdList l).length = l.length * 3 := by
  induction l with
  | nil => rfl
  | cons h l ih => simp only [hdList, List.flatMap_cons, List.length_append, List.length_cons] at ih ⊢; rw [ih]; simp [Hd.cells]; omega
theorem hdList_append (l m : List Hd) : hdList (l ++ m) = hdList l ++ hdList m := by simp [hdList]
theorem hdList_one (h : Hd) : hdList [h] = h.cells := by simp [hdList]
theorem hdList_drop (l : List Hd) (k : Nat) : (hdList l).drop (k * 3) = hdList (l.drop k) := by
  induction l generalizing k with
  | nil => simp [hdList]
  | cons h l ih =>
    cases k with
    | zero => simp
    | succ k =>
      have := ih k
      simp only [hdList, List.flatMap_cons] at this ⊢
      rw [List.drop_succ_cons, ← this, show (k + 1) * 3 = h.cells.length + k * 3 by simp [Hd.cells]; omega, List.drop_length_add_append]
theorem hdList_at (l : List Hd) (i j : Nat) (hi : i < l.length) (hj : j < 3) : (hdList l)[i * 3 + j]? = (l[i]).cells[j]? := by
  induction l generalizing i with
  | nil => simp at hi
  | cons h l ih =>
    simp only [hdList, List.flatMap_cons]
    cases i with
    | zero => rw [Nat.zero_mul, Nat.zero_add, List.getElem?_append_left (by simpa [Hd.cells] using hj)]; rfl
    | succ i =>
      rw [List.getElem?_append_right (by simp [Hd.cells]; omega)]
      have := ih i (by simpa using hi)
      simp only [hdList] at this
      rw [show (i + 1) * 3 + j - h.cells.length = i * 3 + j by simp [Hd.cells]; omega, this]
      rfl
theorem hd_one (h : Hd) : ∀ u ∈ h.cells, u.oneCell' = true := by
  intro u hu
  simp only [Hd.cells, List.mem_cons, List.not_mem_nil, or_false] at hu
  rcases hu with rfl | rfl | rfl <;> rfl
/-- The one at block q: its three fields; what is held is a slice of its own. -/
def Qs (w : World) (q base : Nat) (full bytes : Int) (v : Value) (l : List Hd) : Prop :=
  q < w.heap.size ∧ (w.cell? ⟨q, 0, none⟩ = some (.int .i64 full) ∧ w.cell? ⟨q, 1, none⟩ = some (.int .i64 bytes) ∧ w.cell? ⟨q, 2, none⟩ = some v) ∧
  (w.frozen? ⟨q, 0, none⟩ = false ∧ w.frozen? ⟨q, 1, none⟩ = false ∧ w.frozen? ⟨q, 2, none⟩ = false) ∧ ownsAt w base 78 3 v l.length (hdList l) ∧ base ≤ q ∧ ∀ g, v.ownBlock = some g → ¬ g = q
theorem Qs.only {S : Nat → Prop} {w w' : World} {q base : Nat} {full bytes : Int} {v : Value} {l : List Hd} (h : Qs w q base full bytes v l) (x : Only S w w') (h1 : ¬ S q) (h2 : ∀ g, v.ownBlock = some g → ¬ S g) : Qs w' q base full bytes v l := by
  obtain ⟨hq, ⟨a0, a1, a2⟩, ⟨f0, f1, f2⟩, ho, hb, hn⟩ := h
  exact ⟨Nat.lt_of_lt_of_le hq x.size, ⟨(x.cells q 0 hq h1).trans a0, (x.cells q 1 hq h1).trans a1, (x.cells q 2 hq h1).trans a2⟩, ⟨(x.frozens q 0 hq h1).trans f0, (x.frozens q 1 hq h1).trans f1, (x.frozens q 2 hq h1).trans f2⟩, ho.only x h2, hb, hn⟩
theorem Qs.ext {w w' : World} {q base : Nat} {full bytes : Int} {v : Value} {l : List Hd} (h : Qs w q base full bytes v l) (x : Ext w w') : Qs w' q base full bytes v l := h.only (Only.ofExt (S := fun _ => False) x) id (fun _ _ => id)
set_option maxRecDepth 100000 in
set_option maxHeartbeats 4000000 in
theorem qbytes_ (q base : Nat) (full bytes : Int) (v : Value) (l : List Hd) (w : World) (h : Qs w q base full bytes v l) : Calls Tryd.prog 43 #[.pointer (some ⟨q, 0, none⟩)] w fun e w' => e = .returned (.int .i64 bytes) ∧ w' = w := by
  obtain ⟨A, ca, rfl, hca, _⟩ := h.2.2.2.1.shape
  obtain ⟨hq, ⟨a0, a1, a2⟩, _, ho, _⟩ := h
  go_enter Tryd.func43, Tryd.ntmps43
  go_wp2
  go_ret
  exact ⟨rfl, rfl⟩
set_option maxRecDepth 100000 in
set_option maxHeartbeats 4000000 in
theorem qfull_ (q base : Nat) (full bytes : Int) (v : Value) (l : List Hd) (w : World) (h : Qs w q base full bytes v l) : Calls Tryd.prog 46 #[.pointer (some ⟨q, 0, none⟩)] w fun e w' => e = .returned (.bool (decide (full ≤ bytes))) ∧ Ext w w' := by
  obtain ⟨A, ca, rfl, hca, _⟩ := h.2.2.2.1.shape
  obtain ⟨hq, ⟨a0, a1, a2⟩, _, ho, _⟩ := h
  go_enter Tryd.func46, Tryd.ntmps46
  go_upto_region 1 with (fail)
  refine wp_region_grow (by kernel_rfl) (by kernel_rfl) (by first | (simp only [List.append]; rfl) | rfl) ?_; (repeat (first | ((first | refine quiet_pick_and (by rfl) (by rfl) (by rfl) (by rfl) ?_ | refine quiet_pick_or (by rfl) (by rfl) (by rfl) (by rfl) ?_); simp only [Act.put, List.setIfInBounds_toArray, List.set_cons_zero, List.set_cons_succ]) | go_big_quiet_step (fail) | (refine quiet_guard (v := ?_) (by rfl) (by rfl) (fun hX w hC => ?_) ?_; rotate_left; (obtain ⟨d, rfl⟩ := hC; (try simp only [Bool.and_eq_true, Bool.or_eq_false_iff] at hX); go_split_ands; go_simp; (first | with_reducible rfl | fail)); simp only [Act.put, List.setIfInBounds_toArray, List.set_cons_zero, List.set_cons_succ]))); refine wpQuiet_nil ?_; intro wq hq; obtain ⟨d, rfl⟩ := hq
  go_wp2
  go_ret
  exact ⟨rfl, (by repeat (first | (with_reducible exact Ext.refl _) | (with_reducible refine Ext.undrew ?_) | (with_reducible refine Ext.grow ?_ _) | (with_reducible refine Ext.drew ?_) | (with_reducible refine Ext.drewN ?_ _) | (with_reducible refine Ext.alloc ?_ _) | (with_reducible assumption) | ((with_reducible refine Ext.setCell ?_ ?_ _); rotate_left; (first | exact Nat.le_refl _ | ((try dsimp only); (try simp only [World.size_alloc, grow_size, World.size_setCell]); omega)))))⟩
set_option maxRecDepth 100000 in
set_option maxHeartbeats 4000000 in
theorem within_ (n : Int) (w : World) : Calls Tryd.prog 52 #[.int .i64 n] w fun e w' => e = .returned (.bool (decide (0 ≤ n) && decide (n ≤ 16777216))) ∧ w' = w := by
  by_cases h0 : 0 ≤ n
  · go_enter Tryd.func52, Tryd.ntmps52
    go_wp2
    go_ret
    exact ⟨by simp [h0], rfl⟩
  · go_enter Tryd.func52, Tryd.ntmps52
    go_wp2
    go_ret
    exact ⟨by rw [decide_eq_false (show ¬ 0 ≤ n by omega), Bool.false_and]; rfl, rfl⟩
set_option maxRecDepth 100000 in
set_option maxHeartbeats 4000000 in
theorem qnew_ (n : Int) (w : World) (h0 : 1 ≤ n) (h1 : n ≤ 16777216) : Calls Tryd.prog 29 #[.int .i64 n] w fun e w' => ∃ b, e = .returned (.pointer (some ⟨b, 0, none⟩)) ∧ w.heap.size ≤ b ∧ Ext w w' ∧ Qs w' b w.heap.size n 0 (.slice none 0 0) [] := by
  have h2 : ¬ n < 1 := by omega
  have h3 : ¬ (16777216 : Int) < n := by omega
  go_enter Tryd.func29, Tryd.ntmps29
  go_wp2
  go_ret
  exact ⟨w.heap.size, rfl, Nat.le_refl _, (by repeat (first | (with_reducible exact Ext.refl _) | (with_reducible refine Ext.undrew ?_) | (with_reducible refine Ext.grow ?_ _) | (with_reducible refine Ext.drew ?_) | (with_reducible refine Ext.drewN ?_ _) | (with_reducible refine Ext.alloc ?_ _) | (with_reducible assumption) | ((with_reducible refine Ext.setCell ?_ ?_ _); rotate_left; (first | exact Nat.le_refl _ | ((try dsimp only); (try simp only [World.size_alloc, grow_size, World.size_setCell]); omega))))), by simp, ⟨by simp [go_sem], by simp [go_sem], by simp [go_sem]⟩, ⟨by simp [go_sem], by simp [go_sem], by simp [go_sem]⟩, ownsAt_nil _ _ _ _, Nat.le_refl _, (fun g h => by cases h)⟩
theorem qnew_no (n : Int) (w : World) (h : n < 1 ∨ 16777216 < n) : Calls Tryd.prog 29 #[.int .i64 n] w fun e w' => e = .returned (.pointer none) ∧ w' = w := by
  by_cases h0 : n < 1
  · go_enter Tryd.func29, Tryd.ntmps29
    go_wp2
    go_ret
    exact ⟨rfl, rfl⟩
  · have h1 : (16777216 : Int) < n := by omega
    go_enter Tryd.func29, Tryd.ntmps29
    go_wp2
    go_ret
    exact ⟨rfl, rfl⟩
end Go.Proofs.YtoeiemeffiiidaaDoor

namespace Go.Proofs.YtoeiemeffiiidaaDoor
set_option maxRecDepth 100000
set_option linter.unusedSimpArgs false
set_option linter.unusedVariables false
open Go.RowKit

/-- The time of the one that is held last. -/
def lastT (l : List Hd) : Int := match l.getLast? with
  | some h => h.time
  | none => 0
theorem lastT_nil : lastT [] = 0 := rfl
theorem lastT_at {l : List Hd} {m : Nat} (h : l.length = m + 1) : lastT l = (l[m]'(by omega)).time := by
  have e : l.getLast? = some (l[m]'(by omega)) := by
    rw [List.getLast?_eq_getElem?, show l.length - 1 = m by omega, List.getElem?_eq_getElem (by omega)]
  unfold lastT
  rw [e]
set_option maxRecDepth 100000 in
set_option maxHeartbeats 4000000 in
theorem qsince_ (q base : Nat) (full bytes : Int) (v : Value) (l : List Hd) (w : World) (h : Qs w q base full bytes v l) (hl : l.length ≤ 1000000) : Calls Tryd.prog 53 #[.pointer (some ⟨q, 0, none⟩)] w fun e w' => e = .returned (.int .i64 (lastT l)) ∧ Ext w w' := by
  obtain ⟨A, ca, rfl, hca, _⟩ := h.2.2.2.1.shape
  obtain ⟨hq, ⟨a0, a1, a2⟩, _, ho, _⟩ := h
  rcases hm : l.length with _ | m
  · obtain rfl : l = [] := List.eq_nil_of_length_eq_zero hm
    have hz : (([] : List Hd).length : Int) = 0 := rfl
    go_enter Tryd.func53, Tryd.ntmps53
    go_wp2
    go_ret
    exact ⟨rfl, (by repeat (first | (with_reducible exact Ext.refl _) | (with_reducible refine Ext.undrew ?_) | (with_reducible refine Ext.grow ?_ _) | (with_reducible refine Ext.drew ?_) | (with_reducible refine Ext.drewN ?_ _) | (with_reducible refine Ext.alloc ?_ _) | (with_reducible assumption) | ((with_reducible refine Ext.setCell ?_ ?_ _); rotate_left; (first | exact Nat.le_refl _ | ((try dsimp only); (try simp only [World.size_alloc, grow_size, World.size_setCell]); omega)))))⟩
  · obtain ⟨g, o, rfl, hgb, hg, hcell, _⟩ := ho.at_ rfl (by omega)
    have hT := lastT_at hm
    have hc := hcell (m * 3 + 2) (.int .i64 (lastT l)) (by rw [hT, hdList_at l m 2 (by omega) (by omega)]; rfl)
    rw [hm] at a2 hca
    have hm0 : (0 : Int) ≤ (m : Int) := by omega
    have hm1 : (m : Int) < (m : Int) + 1 := by omega
    have hm2 : ¬ (m : Int) + 1 = 0 := by omega
    have hmb : (m : Int) ≤ 1000000 := by omega
    rw [← Nat.add_assoc] at hc
    generalize lastT l = T at hc
    clear hT hcell ho hm
    go_enter Tryd.func53, Tryd.ntmps53
    go_upto_region 3 with (fail)
    refine wp_region_grow (by kernel_rfl) (by kernel_rfl) (by first | (simp only [List.append]; rfl) | rfl) ?_; (repeat (first | ((first | refine quiet_pick_and (by rfl) (by rfl) (by rfl) (by rfl) ?_ | refine quiet_pick_or (by rfl) (by rfl) (by rfl) (by rfl) ?_); simp only [Act.put, List.setIfInBounds_toArray, List.set_cons_zero, List.set_cons_succ]) | go_big_quiet_step (fail) | (refine quiet_guard (v := ?_) (by rfl) (by rfl) (fun hX w hC => ?_) ?_; rotate_left; (obtain ⟨d, rfl⟩ := hC; (try simp only [Bool.and_eq_true, Bool.or_eq_false_iff] at hX); go_split_ands; go_simp; (first | with_reducible rfl | fail)); simp only [Act.put, List.setIfInBounds_toArray, List.set_cons_zero, List.set_cons_succ]))); refine wpQuiet_nil ?_; intro wq hq; obtain ⟨d, rfl⟩ := hq
    go_wp2
    go_ret
    exact ⟨rfl, (by repeat (first | (with_reducible exact Ext.refl _) | (with_reducible refine Ext.undrew ?_) | (with_reducible refine Ext.grow ?_ _) | (with_reducible refine Ext.drew ?_) | (with_reducible refine Ext.drewN ?_ _) | (with_reducible refine Ext.alloc ?_ _) | (with_reducible assumption) | ((with_reducible refine Ext.setCell ?_ ?_ _); rotate_left; (first | exact Nat.le_refl _ | ((try dsimp only); (try simp only [World.size_alloc, grow_size, World.size_setCell]); omega)))))⟩
/-- May it be put? -/
def okQ (l : List Hd) (h : Hd) : Bool := (decide (0 ≤ h.at_) && decide (h.at_ ≤ 16777216)) && (decide (0 ≤ h.n) && decide (h.n ≤ 16777216)) && !decide (h.time < lastT l) && !decide (2199023255552 < h.time)
set_option maxRecDepth 100000 in
set_option maxHeartbeats 4000000 in
theorem qput_no (q base : Nat) (full bytes : Int) (v : Value) (l : List Hd) (w : World) (h : Qs w q base full bytes v l) (hl : l.length ≤ 1000000) (z : Hd) (hok : okQ l z = false) : Calls Tryd.prog 32 #[.pointer (some ⟨q, 0, none⟩), .agg #[.int .i64 z.at_, .int .i64 z.n, .int .i64 z.time]] w fun e w' => e = .returned (.bool false) ∧ Ext w w' := by
  have HQ := hid h
  clear h
  have hs : ∀ w', Ext w w' → Calls Tryd.prog 53 #[.pointer (some ⟨q, 0, none⟩)] w' fun e w'' => e = .returned (.int .i64 (lastT l)) ∧ Ext w' w'' := fun w' hx => qsince_ q base full bytes v l w' (HQ.out.ext hx) hl
  cases h1 : (decide (0 ≤ z.at_) && decide (z.at_ ≤ 16777216)) with
  | false =>
    have hw1 : ∀ w', Calls Tryd.prog 52 #[.int .i64 z.at_] w' fun e w'' => e = .returned (.bool false) ∧ w' = w'' := fun w' => by rw [← h1]; exact (within_ z.at_ w').mono (fun e w'' h => ⟨h.1, h.2.symm⟩)
    go_enter Tryd.func32, Tryd.ntmps32
    go_upto_region 1 with (fail)
    refine wp_region_grow (by kernel_rfl) (by kernel_rfl) (by first | (simp only [List.append]; rfl) | rfl) ?_
    (repeat (go_big_quiet_step ((go_at_call 52; exact growOfSame (hw1 _)))))
    refine wpQuiet_nil ?_
    intro wq hq
    obtain ⟨d, rfl⟩ := hq
    go_wp2
    go_ret
    exact ⟨rfl, (by repeat (first | (with_reducible exact Ext.refl _) | (with_reducible refine Ext.undrew ?_) | (with_reducible refine Ext.grow ?_ _) | (with_reducible refine Ext.drew ?_) | (with_reducible refine Ext.drewN ?_ _) | (with_reducible refine Ext.alloc ?_ _) | (with_reducible assumption) | ((with_reducible refine Ext.setCell ?_ ?_ _); rotate_left; (first | exact Nat.le_refl _ | ((try dsimp only); (try simp only [World.size_alloc, grow_size, World.size_setCell]); omega)))))⟩
  | true =>
    cases h2 : (decide (0 ≤ z.n) && decide (z.n ≤ 16777216)) with
    | false =>
      have hw1 : ∀ w', Calls Tryd.prog 52 #[.int .i64 z.at_] w' fun e w'' => e = .returned (.bool true) ∧ w' = w'' := fun w' => by rw [← h1]; exact (within_ z.at_ w').mono (fun e w'' h => ⟨h.1, h.2.symm⟩)
      have hw2 : ∀ w', Calls Tryd.prog 52 #[.int .i64 z.n] w' fun e w'' => e = .returned (.bool false) ∧ w' = w'' := fun w' => by rw [← h2]; exact (within_ z.n w').mono (fun e w'' h => ⟨h.1, h.2.symm⟩)
      go_enter Tryd.func32, Tryd.ntmps32
      go_upto_region 1 with (fail)
      refine wp_region_grow (by kernel_rfl) (by kernel_rfl) (by first | (simp only [List.append]; rfl) | rfl) ?_
      (repeat (go_big_quiet_step (first | (go_at_call 52; exact growOfSame (hw1 _)) | (go_at_call 52; exact growOfSame (hw2 _)))))
      refine wpQuiet_nil ?_
      intro wq hq
      obtain ⟨d, rfl⟩ := hq
      go_wp2
      go_ret
      exact ⟨rfl, (by repeat (first | (with_reducible exact Ext.refl _) | (with_reducible refine Ext.undrew ?_) | (with_reducible refine Ext.grow ?_ _) | (with_reducible refine Ext.drew ?_) | (with_reducible refine Ext.drewN ?_ _) | (with_reducible refine Ext.alloc ?_ _) | (with_reducible assumption) | ((with_reducible refine Ext.setCell ?_ ?_ _); rotate_left; (first | exact Nat.le_refl _ | ((try dsimp only); (try simp only [World.size_alloc, grow_size, World.size_setCell]); omega)))))⟩
    | true =>
      by_cases h3 : z.time < lastT l
      · have hw1 : ∀ w', Calls Tryd.prog 52 #[.int .i64 z.at_] w' fun e w'' => e = .returned (.bool true) ∧ w' = w'' := fun w' => by rw [← h1]; exact (within_ z.at_ w').mono (fun e w'' h => ⟨h.1, h.2.symm⟩)
        have hw2 : ∀ w', Calls Tryd.prog 52 #[.int .i64 z.n] w' fun e w'' => e = .returned (.bool true) ∧ w' = w'' := fun w' => by rw [← h2]; exact (within_ z.n w').mono (fun e w'' h => ⟨h.1, h.2.symm⟩)
        have h3' : z.time < lastT l := h3
        go_enter Tryd.func32, Tryd.ntmps32
        go_upto_region 1 with (fail)
        refine wp_region_grow (by kernel_rfl) (by kernel_rfl) (by first | (simp only [List.append]; rfl) | rfl) ?_
        (repeat (go_big_quiet_step (first | (go_at_call 52; exact growOfSame (hw1 _)) | (go_at_call 52; exact growOfSame (hw2 _)) | (go_at_call 53; exact growOf (hs _ (by repeat (first | (with_reducible exact Ext.refl _) | (with_reducible refine Ext.undrew ?_) | (with_reducible refine Ext.grow ?_ _) | (with_reducible refine Ext.drew ?_) | (with_reducible refine Ext.drewN ?_ _) | (with_reducible refine Ext.alloc ?_ _) | (with_reducible assumption) | ((with_reducible refine Ext.setCell ?_ ?_ _); rotate_left; (first | exact Nat.le_refl _ | ((try dsimp only); (try simp only [World.size_alloc, grow_size, World.size_setCell]); omega))))))))))
        refine wpQuiet_nil ?_
        intro wq hq
        obtain ⟨d, rfl⟩ := hq
        go_wp2
        go_ret
        exact ⟨rfl, (by repeat (first | (with_reducible exact Ext.refl _) | (with_reducible refine Ext.undrew ?_) | (with_reducible refine Ext.grow ?_ _) | (with_reducible refine Ext.drew ?_) | (with_reducible refine Ext.drewN ?_ _) | (with_reducible refine Ext.alloc ?_ _) | (with_reducible assumption) | ((with_reducible refine Ext.setCell ?_ ?_ _); rotate_left; (first | exact Nat.le_refl _ | ((try dsimp only); (try simp only [World.size_alloc, grow_size, World.size_setCell]); omega)))))⟩
      · by_cases h4 : (2199023255552 : Int) < z.time
        · have hw1 : ∀ w', Calls Tryd.prog 52 #[.int .i64 z.at_] w' fun e w'' => e = .returned (.bool true) ∧ w' = w'' := fun w' => by rw [← h1]; exact (within_ z.at_ w').mono (fun e w'' h => ⟨h.1, h.2.symm⟩)
          have hw2 : ∀ w', Calls Tryd.prog 52 #[.int .i64 z.n] w' fun e w'' => e = .returned (.bool true) ∧ w' = w'' := fun w' => by rw [← h2]; exact (within_ z.n w').mono (fun e w'' h => ⟨h.1, h.2.symm⟩)
          have h3' : ¬ z.time < lastT l := h3
          have h4' : (2199023255552 : Int) < z.time := h4
          go_enter Tryd.func32, Tryd.ntmps32
          go_upto_region 1 with (fail)
          refine wp_region_grow (by kernel_rfl) (by kernel_rfl) (by first | (simp only [List.append]; rfl) | rfl) ?_
          (repeat (go_big_quiet_step (first | (go_at_call 52; exact growOfSame (hw1 _)) | (go_at_call 52; exact growOfSame (hw2 _)) | (go_at_call 53; exact growOf (hs _ (by repeat (first | (with_reducible exact Ext.refl _) | (with_reducible refine Ext.undrew ?_) | (with_reducible refine Ext.grow ?_ _) | (with_reducible refine Ext.drew ?_) | (with_reducible refine Ext.drewN ?_ _) | (with_reducible refine Ext.alloc ?_ _) | (with_reducible assumption) | ((with_reducible refine Ext.setCell ?_ ?_ _); rotate_left; (first | exact Nat.le_refl _ | ((try dsimp only); (try simp only [World.size_alloc, grow_size, World.size_setCell]); omega))))))))))
          refine wpQuiet_nil ?_
          intro wq hq
          obtain ⟨d, rfl⟩ := hq
          go_wp2
          go_ret
          exact ⟨rfl, (by repeat (first | (with_reducible exact Ext.refl _) | (with_reducible refine Ext.undrew ?_) | (with_reducible refine Ext.grow ?_ _) | (with_reducible refine Ext.drew ?_) | (with_reducible refine Ext.drewN ?_ _) | (with_reducible refine Ext.alloc ?_ _) | (with_reducible assumption) | ((with_reducible refine Ext.setCell ?_ ?_ _); rotate_left; (first | exact Nat.le_refl _ | ((try dsimp only); (try simp only [World.size_alloc, grow_size, World.size_setCell]); omega)))))⟩
        · exact absurd hok (by simp [okQ, h1, h2, h3, h4])
end Go.Proofs.YtoeiemeffiiidaaDoor

namespace Go.Proofs.YtoeiemeffiiidaaDoor
set_option maxRecDepth 100000
set_option linter.unusedSimpArgs false
set_option linter.unusedVariables false
open Go.RowKit

theorem quiet_loadC {P : Program} {o : Oper} {a : Act} {C : World → Prop} {K : Act → Prop} (ty : TypeId) (x : Operand) (ho : o.op = .load ty x) (b off : Nat) (hx : a.eval x = .pointer (some ⟨b, off, none⟩)) (cs : List Value) (d : TypeDesc)
    (hc : ∀ w', C w' → w'.rangeAt b off cs) (hu : P.underlying ty = some d) (hd : d.isRow = true) (hi : (P.info? ty).map (·.size) = some cs.length) (k : K (a.put o.dst (.agg cs.toArray))) : o.quiet P a C K := by
  refine ⟨_, fun w' hw' => ?_, k⟩
  unfold Oper.quietAt execOp
  rw [ho]
  simp only [hx, run_loadAt_mid w' b off ty cs d (hc w' hw') hu hd hi, Sem.run_bind, Sem.run_map, Sem.run_pure, Result.andThen, Oper.quietUpon, and_self]
theorem held_info : ∃ i z, Tryd.prog.info? 78 = some i ∧ i.zero = some z ∧ z.cells.size = 3 ∧ i.size = 3 ∧ i.bytes = 24 := by
  have h : (Tryd.prog.info? 78).map (fun i => (i.zero.map (fun z => z.cells.size), i.size, i.bytes)) = some (some 3, 3, 24) := by kernel_rfl
  cases hq : Tryd.prog.info? 78 with
  | none => simp [hq] at h
  | some i =>
    cases hz : i.zero with
    | none => simp [hq, hz] at h
    | some z => exact ⟨i, z, rfl, hz, by simpa [hq, hz] using h⟩
set_option maxRecDepth 100000 in
set_option maxHeartbeats 4000000 in
theorem qput_ (q base : Nat) (full bytes : Int) (v : Value) (l : List Hd) (w : World) (h : Qs w q base full bytes v l) (hl : l.length ≤ 1000000) (z : Hd) (hok : okQ l z = true) (hwb : wrap64 (bytes + z.n) = bytes + z.n) :
    Calls Tryd.prog 32 #[.pointer (some ⟨q, 0, none⟩), .agg #[.int .i64 z.at_, .int .i64 z.n, .int .i64 z.time]] w fun e w' => ∃ v', e = .returned (.bool true) ∧ Qs w' q base full (bytes + z.n) v' (l ++ [z]) ∧ Only (tch q v) w w' ∧ (∀ g, v'.ownBlock = some g → v.ownBlock = some g ∨ w.heap.size ≤ g) := by
  have HQ := hid h
  have HWB := hid hwb
  have hq := h.1
  clear h hwb
  unfold okQ at hok
  obtain ⟨⟨⟨h1, h2⟩, h3⟩, h4⟩ : (((decide (0 ≤ z.at_) && decide (z.at_ ≤ 16777216)) = true ∧ (decide (0 ≤ z.n) && decide (z.n ≤ 16777216)) = true) ∧ ¬ z.time < lastT l) ∧ ¬ (2199023255552 : Int) < z.time := by
    simpa only [Bool.and_eq_true, Bool.not_eq_true', decide_eq_false_iff_not, decide_eq_true_eq] using hok
  have hs : ∀ w', Ext w w' → Calls Tryd.prog 53 #[.pointer (some ⟨q, 0, none⟩)] w' fun e w'' => e = .returned (.int .i64 (lastT l)) ∧ Ext w' w'' := fun w' hx => qsince_ q base full bytes v l w' (HQ.out.ext hx) hl
  have hw1 : ∀ w', Calls Tryd.prog 52 #[.int .i64 z.at_] w' fun e w'' => e = .returned (.bool true) ∧ w' = w'' := fun w' => by rw [← h1]; exact (within_ z.at_ w').mono (fun e w'' h => ⟨h.1, h.2.symm⟩)
  have hw2 : ∀ w', Calls Tryd.prog 52 #[.int .i64 z.n] w' fun e w'' => e = .returned (.bool true) ∧ w' = w'' := fun w' => by rw [← h2]; exact (within_ z.n w').mono (fun e w'' h => ⟨h.1, h.2.symm⟩)
  obtain ⟨bx, hbx⟩ : ∃ x, w.heap.size = x := ⟨_, rfl⟩
  go_enter Tryd.func32, Tryd.ntmps32
  go_upto_region 1 with (fail)
  refine wp_region_grow (by kernel_rfl) (by kernel_rfl) (by first | (simp only [List.append]; rfl) | rfl) ?_
  (repeat (go_big_quiet_step (first | (go_at_call 52; exact growOfSame (hw1 _)) | (go_at_call 52; exact growOfSame (hw2 _)) | (go_at_call 53; exact growOf (hs _ (by repeat (first | (with_reducible exact Ext.refl _) | (with_reducible refine Ext.undrew ?_) | (with_reducible refine Ext.grow ?_ _) | (with_reducible refine Ext.drew ?_) | (with_reducible refine Ext.drewN ?_ _) | (with_reducible refine Ext.alloc ?_ _) | (with_reducible assumption) | ((with_reducible refine Ext.setCell ?_ ?_ _); rotate_left; (first | exact Nat.le_refl _ | ((try dsimp only); (try simp only [World.size_alloc, grow_size, World.size_setCell]); omega))))))))))
  refine wpQuiet_nil ?_
  intro wq hq
  obtain ⟨d, rfl⟩ := hq
  go_upto_region 3 with (fail)
  refine wp_gen (fun W => Hid (Ext w W) ∧ Hid (Row W w.heap.size 0 [.int .i64 z.at_, .int .i64 z.n, .int .i64 z.time])) ⟨hid (by repeat (first | (with_reducible exact Ext.refl _) | (with_reducible refine Ext.undrew ?_) | (with_reducible refine Ext.grow ?_ _) | (with_reducible refine Ext.drew ?_) | (with_reducible refine Ext.drewN ?_ _) | (with_reducible refine Ext.alloc ?_ _) | (with_reducible assumption) | ((with_reducible refine Ext.setCell ?_ ?_ _); rotate_left; (first | exact Nat.le_refl _ | ((try dsimp only); (try simp only [World.size_alloc, grow_size, World.size_setCell]); omega))))), hid ((Row.new w _ _).ext (Ext.grow (Ext.refl _) d))⟩ ?_
  rintro W1 ⟨hE1, hR1⟩
  rw [hbx] at hR1
  clear hs hw1 hw2 h1 h2 h3 h4 hok
  have HQ1 := hid (HQ.out.ext hE1.out)
  have hSb : ¬ tch q v bx := by
    rintro (h | h)
    · omega
    · have := (HQ.out.2.2.2.1.lt _ h).2; omega
  refine wp_region_only (S := tch q v) (.rd 0 (.rd 1 (.rd 2 (.rd 3 (.rd 5 (.br 4 (.ac 6 (.ac 7 (.rd 8 (.rd 9 (.ac 10 .done))))) 6 (.ac 4 (.ac 7 (.rd 8 (.rd 9 (.ac 10 .done))))))))))) (by kernel_rfl) (by kernel_rfl) (fun _ _ d _ _ h => by cases d <;> exact h) (by simp only [Ord.map, nthOp, List.append]; rfl) ?_
  intro d1
  have hR5 := hid (hR1.out.ext (Ext.grow (Ext.refl W1) d1))
  have HQ4 := hid (HQ1.out.ext (Ext.grow (Ext.refl W1) d1))
  have hE5 := hid (hE1.out.trans (Ext.grow (Ext.refl W1) d1))
  generalize Go.Proofs.YtoeiemeffiiidaaDoor.grow W1 d1 = W4 at hR5 HQ4 hE5 ⊢
  have hc4 := HQ4.out.2.1.2.2
  have hq3 := HQ4.out.1
  clear hR1 HQ1 hE1
  obtain ⟨i0, z0, hi0, hz0, hz1, hz2, hz3⟩ := held_info
  repeat' (first | (refine only_read (by rfl) (fun K hK => ?_); refine quiet_loadC 78 (.tmp 3) rfl bx 0 rfl [.int .i64 z.at_, .int .i64 z.n, .int .i64 z.time] _ (fun w' hw' => (hR5.out.only hw' hSb).range) Tryd.underlying78 rfl (by kernel_rfl) ?_; refine hK _ ?_; clear hK K; simp only [Act.put, List.setIfInBounds_toArray, List.set_cons_zero, List.set_cons_succ]) | (refine only_read (by rfl) (fun K hK => ?_); refine quiet_runD 29 rfl (.pointer (some ⟨q, 0, none⟩)) (fun w => by kernel_rfl) ?_; refine hK _ ?_; clear hK K; simp only [Act.put, List.setIfInBounds_toArray, List.set_cons_zero, List.set_cons_succ]) | (refine only_read (by rfl) (fun K hK => ?_); refine quiet_runD 30 rfl (.pointer (some ⟨q, 2, none⟩)) (fun w => by kernel_rfl) ?_; refine hK _ ?_; clear hK K; simp only [Act.put, List.setIfInBounds_toArray, List.set_cons_zero, List.set_cons_succ]) | (refine only_read (by rfl) (fun K hK => ?_); refine quiet_runD 35 rfl (.pointer (some ⟨q, 0, none⟩)) (fun w => by kernel_rfl) ?_; refine hK _ ?_; clear hK K; simp only [Act.put, List.setIfInBounds_toArray, List.set_cons_zero, List.set_cons_succ]) | (refine only_read (by rfl) (fun K hK => ?_); refine quiet_runD 36 rfl (.pointer (some ⟨q, 2, none⟩)) (fun w => by kernel_rfl) ?_; refine hK _ ?_; clear hK K; simp only [Act.put, List.setIfInBounds_toArray, List.set_cons_zero, List.set_cons_succ]) | (refine only_read (by rfl) (fun K hK => ?_); go_big_quiet_op; refine hK _ ?_; clear hK K))
  refine only_br ?_ ?_
  · refine only_act (by rfl) (fun K hK => ?_)
    go_wp2_with fail
    refine ⟨_, Only.refl _ _, Only.refl _ _, ?_⟩
    refine only_act (by rfl) (fun K hK => ?_)
    refine wp_build1 79 78 (.tmp 32) rfl #[.int .i64 z.at_, .int .i64 z.n, .int .i64 z.time] 3 rfl rfl (by omega) (by omega) Tryd.underlying79 (by kernel_rfl) (by kernel_rfl) ?_
    refine hK _ _ ⟨_, Only.refl _ _, Only.ofExt (Ext.alloc (Ext.refl _) _), ?_⟩
    refine only_gen (fun W => Hid (Ext W4 W) ∧ Hid (Row W W4.heap.size 0 [.int .i64 z.at_, .int .i64 z.n, .int .i64 z.time])) ⟨hid (Ext.alloc (Ext.refl _) _), hid (Row.new W4 _ _)⟩ ?_
    clear hK K
    rintro w4 ⟨hE4, hR4⟩
    have hq4 := hid (HQ4.out.ext hE4.out)
    have hb4 : base ≤ w4.heap.size := by have := hq4.out.1; have := hq4.out.2.2.2.2.1; omega
    have hc5 := hq4.out.2.1.2.2
    have hS5 : Hid (Only (tch q v) W4 w4) := hid (Only.ofExt hE4.out)
    refine only_act (by rfl) (fun K hK => ?_)
    refine wp_append_at _ (.tmp 31) (.tmp 33) 79 rfl base 78 i0 z0 3 24 Tryd.underlying79 hi0 hz0 hz2 hz3 hz1 (by omega) v l.length (hdList l) rfl hq4.out.2.2.2.1 ⟨W4.heap.size, 0, none⟩ 1 1 [.int .i64 z.at_, .int .i64 z.n, .int .i64 z.time] rfl rfl (fun j u hj => by rw [Addr.add_lit]; exact hR4.out.range j u hj) (hd_one z) (by unfold maxLen; omega) (by omega) hb4 (by omega) ?_
    intro v6 w6 hown6 hgrow hat
    have hown6 : Hid (ownsAt w6 base 78 3 v6 (l ++ [z]).length (hdList (l ++ [z]))) := hid (by rw [hdList_append, hdList_one, List.length_append]; exact hown6)
    have hS6 : Hid (Only (tch q v) W4 w6) := hid (Only.trans' hS5.out (grownOnly hgrow fun g hg => .inr hg))
    have hne6 : ∀ g, v6.ownBlock = some g → ¬ g = q := fun g h e => by
      rcases hat with h' | ⟨g', h', hlt⟩
      · exact hq4.out.2.2.2.2.2 g (h' ▸ h) e
      · rw [h] at h'; have := hq4.out.1; simp only [Option.some.injEq] at h'; omega
    have hG6 := grownOnly (S := fun i => v.ownBlock = some i) hgrow fun g hg => hg
    have hnq : ¬ v.ownBlock = some q := fun h => hq4.out.2.2.2.2.2 q h rfl
    have hq6 : q < w6.heap.size := Nat.lt_of_lt_of_le hq4.out.1 hG6.size
    have hc60 := (hG6.cells q 0 hq4.out.1 hnq).trans hq4.out.2.1.1
    have hc61 := (hG6.cells q 1 hq4.out.1 hnq).trans hq4.out.2.1.2.1
    have hc62 := (hG6.cells q 2 hq4.out.1 hnq).trans hc5
    have hf60 := (hG6.frozens q 0 hq4.out.1 hnq).trans hq4.out.2.2.1.1
    have hf61 := (hG6.frozens q 1 hq4.out.1 hnq).trans hq4.out.2.2.1.2.1
    have hf62 := (hG6.frozens q 2 hq4.out.1 hnq).trans hq4.out.2.2.1.2.2
    have hR6 := hid (hR5.out.only hS6.out hSb)
    obtain ⟨A6, c6, rfl, _, _⟩ := hown6.out.shape
    have hat6 : ∀ g, (Value.slice A6 (l ++ [z]).length c6).ownBlock = some g → v.ownBlock = some g ∨ W4.heap.size ≤ g := fun g h => by
      rcases hat with h' | ⟨g', h', hlt⟩
      · exact .inl (h' ▸ h)
      · rw [h] at h'
        simp only [Option.some.injEq] at h'
        have := hE4.out.size
        exact .inr (by omega)
    refine hK _ _ ⟨_, Only.refl _ _, hS6.out, ?_⟩
    clear hK K hgrow hG6 hS5 hR4 hE4 hc5 hq4 hat hR5
    simp only [Act.put, List.setIfInBounds_toArray, List.set_cons_zero, List.set_cons_succ]
    repeat' (first | (refine only_read (by rfl) (fun K hK => ?_); refine quiet_runD 29 rfl (.pointer (some ⟨q, 0, none⟩)) (fun w => by kernel_rfl) ?_; refine hK _ ?_; clear hK K; simp only [Act.put, List.setIfInBounds_toArray, List.set_cons_zero, List.set_cons_succ]) | (refine only_read (by rfl) (fun K hK => ?_); refine quiet_runD 30 rfl (.pointer (some ⟨q, 2, none⟩)) (fun w => by kernel_rfl) ?_; refine hK _ ?_; clear hK K; simp only [Act.put, List.setIfInBounds_toArray, List.set_cons_zero, List.set_cons_succ]) | (refine only_read (by rfl) (fun K hK => ?_); refine quiet_runD 35 rfl (.pointer (some ⟨q, 0, none⟩)) (fun w => by kernel_rfl) ?_; refine hK _ ?_; clear hK K; simp only [Act.put, List.setIfInBounds_toArray, List.set_cons_zero, List.set_cons_succ]) | (refine only_read (by rfl) (fun K hK => ?_); refine quiet_runD 36 rfl (.pointer (some ⟨q, 2, none⟩)) (fun w => by kernel_rfl) ?_; refine hK _ ?_; clear hK K; simp only [Act.put, List.setIfInBounds_toArray, List.set_cons_zero, List.set_cons_succ]) | (refine only_read (by rfl) (fun K hK => ?_); go_big_quiet_op; refine hK _ ?_; clear hK K))
    refine only_act (by rfl) (fun K hK => ?_)
    go_wp2_with fail
    refine ⟨_, Only.refl _ _, Only.setCell (S := tch q v) hS6.out (Or.inl (show tch q v q from Or.inl rfl)) _, ?_⟩
    refine only_nil ?_
    go_upto_region 4 with (fail)
    have hSx : ∀ u, Only (fun i => i = q) w6 (w6.setCell ⟨q, 2, none⟩ u) := fun u => Only.setCell (S := fun i => i = q) (Only.refl _ _) (.inl rfl) u
    have hbq : ¬ bx = q := by omega
    refine wp_gen (fun W => Hid (Qs W q base full bytes (.slice A6 (l ++ [z]).length c6) (l ++ [z])) ∧ Hid (Only (tch q v) w W) ∧ Hid (Row W bx 0 [.int .i64 z.at_, .int .i64 z.n, .int .i64 z.time])) ⟨hid ⟨by simpa using hq6, ⟨by simp [go_sem, hc60], by simp [go_sem, hc61], by simp [go_sem, hc62]⟩, ⟨by simp [go_sem, hf60], by simp [go_sem, hf61], by simp [go_sem, hf62]⟩, hown6.out.only (hSx _) hne6, HQ.out.2.2.2.2.1, hne6⟩, hid (Only.trans' (Only.ofExt hE5.out) (Only.setCell (S := tch q v) hS6.out (Or.inl (show tch q v q from Or.inl rfl)) _)), hid (hR6.out.only (hSx _) hbq)⟩ ?_
    clear hc60 hc61 hc62 hf60 hf61 hf62 hown6 hS6 hR6 hSx hq6
    rintro W7 ⟨hQ7, hO7, hR7⟩
    refine wp_region_turn (q := q) (.rd 0 (.rd 1 (.rd 2 (.rd 4 (.rd 5 (.ac 3 (.rd 6 (.rd 7 (.rd 8 (.ac 9 .done)))))))))) (by kernel_rfl) (by kernel_rfl) (fun _ _ d _ _ h => by cases d <;> exact h) (by simp only [Ord.map, nthOp, List.append]; rfl) ?_
    intro d2
    have hQ8 := hid (hQ7.out.ext (Ext.grow (Ext.refl W7) d2))
    have hO8 := hid (Only.transExt hO7.out (Ext.grow (Ext.refl W7) d2))
    have hR8 := hid (hR7.out.ext (Ext.grow (Ext.refl W7) d2))
    generalize Go.Proofs.YtoeiemeffiiidaaDoor.grow W7 d2 = W8 at hQ8 hO8 hR8 ⊢
    clear hQ7 hO7 hR7
    have hn8 : W8.cell? ⟨bx, 1, none⟩ = some (.int .i64 z.n) := by have := hR8.out.at_ 1 _ rfl; simpa using this
    have hbl : bx < W8.heap.size := hR8.out.lt
    have hq8 := hQ8.out.1
    have hb8 := hQ8.out.2.1.2.1
    have hf8 := hQ8.out.2.2.1.2.1
    have hwb := HWB.out
    repeat' (first | (refine turn_read (by rfl) (fun K hK => ?_); go_big_quiet_op; refine hK _ ?_; clear hK K) | (refine turn_act (by rfl) (fun K hK => ?_); go_wp2_with fail; refine ⟨_, Only.refl _ _, (by first | exact Only.refl _ _ | exact Only.setCell (S := fun i => i = q) (Only.refl _ _) (.inl rfl) _), ?_⟩))
    refine turn_nil ?_
    go_wp2
    go_ret
    have hSy : ∀ u, Only (fun i => i = q) W8 (W8.setCell ⟨q, 1, none⟩ u) := fun u => Only.setCell (S := fun i => i = q) (Only.refl _ _) (.inl rfl) u
    have h80 := hQ8.out.2.1.1
    have h82 := hQ8.out.2.1.2.2
    have k80 := hQ8.out.2.2.1.1
    have k82 := hQ8.out.2.2.1.2.2
    refine ⟨_, rfl, ⟨by simpa using hq8, ⟨by simp [go_sem, h80], by simp [go_sem, hb8], by simp [go_sem, h82]⟩, ⟨by simp [go_sem, k80], by simp [go_sem, hf8], by simp [go_sem, k82]⟩, hQ8.out.2.2.2.1.only (hSy _) hne6, hQ8.out.2.2.2.2⟩, Only.setCell (S := tch q v) hO8.out (Or.inl (show tch q v q from Or.inl rfl)) _, fun g h => (hat6 g h).imp_right fun h => Nat.le_trans hE5.out.size h⟩
  · refine only_act (by rfl) (fun K hK => ?_)
    refine wp_build1 79 78 (.tmp 32) rfl #[.int .i64 z.at_, .int .i64 z.n, .int .i64 z.time] 3 rfl rfl (by omega) (by omega) Tryd.underlying79 (by kernel_rfl) (by kernel_rfl) ?_
    refine hK _ _ ⟨_, Only.refl _ _, Only.ofExt (Ext.alloc (Ext.refl _) _), ?_⟩
    refine only_gen (fun W => Hid (Ext W4 W) ∧ Hid (Row W W4.heap.size 0 [.int .i64 z.at_, .int .i64 z.n, .int .i64 z.time])) ⟨hid (Ext.alloc (Ext.refl _) _), hid (Row.new W4 _ _)⟩ ?_
    clear hK K
    rintro w4 ⟨hE4, hR4⟩
    have hq4 := hid (HQ4.out.ext hE4.out)
    have hb4 : base ≤ w4.heap.size := by have := hq4.out.1; have := hq4.out.2.2.2.2.1; omega
    have hc5 := hq4.out.2.1.2.2
    have hS5 : Hid (Only (tch q v) W4 w4) := hid (Only.ofExt hE4.out)
    refine only_act (by rfl) (fun K hK => ?_)
    go_wp2_with fail
    refine ⟨_, Only.refl _ _, hS5.out, ?_⟩
    refine only_act (by rfl) (fun K hK => ?_)
    refine wp_append_at _ (.tmp 31) (.tmp 33) 79 rfl base 78 i0 z0 3 24 Tryd.underlying79 hi0 hz0 hz2 hz3 hz1 (by omega) v l.length (hdList l) rfl hq4.out.2.2.2.1 ⟨W4.heap.size, 0, none⟩ 1 1 [.int .i64 z.at_, .int .i64 z.n, .int .i64 z.time] rfl rfl (fun j u hj => by rw [Addr.add_lit]; exact hR4.out.range j u hj) (hd_one z) (by unfold maxLen; omega) (by omega) hb4 (by omega) ?_
    intro v6 w6 hown6 hgrow hat
    have hown6 : Hid (ownsAt w6 base 78 3 v6 (l ++ [z]).length (hdList (l ++ [z]))) := hid (by rw [hdList_append, hdList_one, List.length_append]; exact hown6)
    have hS6 : Hid (Only (tch q v) W4 w6) := hid (Only.trans' hS5.out (grownOnly hgrow fun g hg => .inr hg))
    have hne6 : ∀ g, v6.ownBlock = some g → ¬ g = q := fun g h e => by
      rcases hat with h' | ⟨g', h', hlt⟩
      · exact hq4.out.2.2.2.2.2 g (h' ▸ h) e
      · rw [h] at h'; have := hq4.out.1; simp only [Option.some.injEq] at h'; omega
    have hG6 := grownOnly (S := fun i => v.ownBlock = some i) hgrow fun g hg => hg
    have hnq : ¬ v.ownBlock = some q := fun h => hq4.out.2.2.2.2.2 q h rfl
    have hq6 : q < w6.heap.size := Nat.lt_of_lt_of_le hq4.out.1 hG6.size
    have hc60 := (hG6.cells q 0 hq4.out.1 hnq).trans hq4.out.2.1.1
    have hc61 := (hG6.cells q 1 hq4.out.1 hnq).trans hq4.out.2.1.2.1
    have hc62 := (hG6.cells q 2 hq4.out.1 hnq).trans hc5
    have hf60 := (hG6.frozens q 0 hq4.out.1 hnq).trans hq4.out.2.2.1.1
    have hf61 := (hG6.frozens q 1 hq4.out.1 hnq).trans hq4.out.2.2.1.2.1
    have hf62 := (hG6.frozens q 2 hq4.out.1 hnq).trans hq4.out.2.2.1.2.2
    have hR6 := hid (hR5.out.only hS6.out hSb)
    obtain ⟨A6, c6, rfl, _, _⟩ := hown6.out.shape
    have hat6 : ∀ g, (Value.slice A6 (l ++ [z]).length c6).ownBlock = some g → v.ownBlock = some g ∨ W4.heap.size ≤ g := fun g h => by
      rcases hat with h' | ⟨g', h', hlt⟩
      · exact .inl (h' ▸ h)
      · rw [h] at h'
        simp only [Option.some.injEq] at h'
        have := hE4.out.size
        exact .inr (by omega)
    refine hK _ _ ⟨_, Only.refl _ _, hS6.out, ?_⟩
    clear hK K hgrow hG6 hS5 hR4 hE4 hc5 hq4 hat hR5
    simp only [Act.put, List.setIfInBounds_toArray, List.set_cons_zero, List.set_cons_succ]
    repeat' (first | (refine only_read (by rfl) (fun K hK => ?_); refine quiet_runD 29 rfl (.pointer (some ⟨q, 0, none⟩)) (fun w => by kernel_rfl) ?_; refine hK _ ?_; clear hK K; simp only [Act.put, List.setIfInBounds_toArray, List.set_cons_zero, List.set_cons_succ]) | (refine only_read (by rfl) (fun K hK => ?_); refine quiet_runD 30 rfl (.pointer (some ⟨q, 2, none⟩)) (fun w => by kernel_rfl) ?_; refine hK _ ?_; clear hK K; simp only [Act.put, List.setIfInBounds_toArray, List.set_cons_zero, List.set_cons_succ]) | (refine only_read (by rfl) (fun K hK => ?_); refine quiet_runD 35 rfl (.pointer (some ⟨q, 0, none⟩)) (fun w => by kernel_rfl) ?_; refine hK _ ?_; clear hK K; simp only [Act.put, List.setIfInBounds_toArray, List.set_cons_zero, List.set_cons_succ]) | (refine only_read (by rfl) (fun K hK => ?_); refine quiet_runD 36 rfl (.pointer (some ⟨q, 2, none⟩)) (fun w => by kernel_rfl) ?_; refine hK _ ?_; clear hK K; simp only [Act.put, List.setIfInBounds_toArray, List.set_cons_zero, List.set_cons_succ]) | (refine only_read (by rfl) (fun K hK => ?_); go_big_quiet_op; refine hK _ ?_; clear hK K))
    refine only_act (by rfl) (fun K hK => ?_)
    go_wp2_with fail
    refine ⟨_, Only.refl _ _, Only.setCell (S := tch q v) hS6.out (Or.inl (show tch q v q from Or.inl rfl)) _, ?_⟩
    refine only_nil ?_
    go_upto_region 4 with (fail)
    have hSx : ∀ u, Only (fun i => i = q) w6 (w6.setCell ⟨q, 2, none⟩ u) := fun u => Only.setCell (S := fun i => i = q) (Only.refl _ _) (.inl rfl) u
    have hbq : ¬ bx = q := by omega
    refine wp_gen (fun W => Hid (Qs W q base full bytes (.slice A6 (l ++ [z]).length c6) (l ++ [z])) ∧ Hid (Only (tch q v) w W) ∧ Hid (Row W bx 0 [.int .i64 z.at_, .int .i64 z.n, .int .i64 z.time])) ⟨hid ⟨by simpa using hq6, ⟨by simp [go_sem, hc60], by simp [go_sem, hc61], by simp [go_sem, hc62]⟩, ⟨by simp [go_sem, hf60], by simp [go_sem, hf61], by simp [go_sem, hf62]⟩, hown6.out.only (hSx _) hne6, HQ.out.2.2.2.2.1, hne6⟩, hid (Only.trans' (Only.ofExt hE5.out) (Only.setCell (S := tch q v) hS6.out (Or.inl (show tch q v q from Or.inl rfl)) _)), hid (hR6.out.only (hSx _) hbq)⟩ ?_
    clear hc60 hc61 hc62 hf60 hf61 hf62 hown6 hS6 hR6 hSx hq6
    rintro W7 ⟨hQ7, hO7, hR7⟩
    refine wp_region_turn (q := q) (.rd 0 (.rd 1 (.rd 2 (.rd 4 (.rd 5 (.ac 3 (.rd 6 (.rd 7 (.rd 8 (.ac 9 .done)))))))))) (by kernel_rfl) (by kernel_rfl) (fun _ _ d _ _ h => by cases d <;> exact h) (by simp only [Ord.map, nthOp, List.append]; rfl) ?_
    intro d2
    have hQ8 := hid (hQ7.out.ext (Ext.grow (Ext.refl W7) d2))
    have hO8 := hid (Only.transExt hO7.out (Ext.grow (Ext.refl W7) d2))
    have hR8 := hid (hR7.out.ext (Ext.grow (Ext.refl W7) d2))
    generalize Go.Proofs.YtoeiemeffiiidaaDoor.grow W7 d2 = W8 at hQ8 hO8 hR8 ⊢
    clear hQ7 hO7 hR7
    have hn8 : W8.cell? ⟨bx, 1, none⟩ = some (.int .i64 z.n) := by have := hR8.out.at_ 1 _ rfl; simpa using this
    have hbl : bx < W8.heap.size := hR8.out.lt
    have hq8 := hQ8.out.1
    have hb8 := hQ8.out.2.1.2.1
    have hf8 := hQ8.out.2.2.1.2.1
    have hwb := HWB.out
    repeat' (first | (refine turn_read (by rfl) (fun K hK => ?_); go_big_quiet_op; refine hK _ ?_; clear hK K) | (refine turn_act (by rfl) (fun K hK => ?_); go_wp2_with fail; refine ⟨_, Only.refl _ _, (by first | exact Only.refl _ _ | exact Only.setCell (S := fun i => i = q) (Only.refl _ _) (.inl rfl) _), ?_⟩))
    refine turn_nil ?_
    go_wp2
    go_ret
    have hSy : ∀ u, Only (fun i => i = q) W8 (W8.setCell ⟨q, 1, none⟩ u) := fun u => Only.setCell (S := fun i => i = q) (Only.refl _ _) (.inl rfl) u
    have h80 := hQ8.out.2.1.1
    have h82 := hQ8.out.2.1.2.2
    have k80 := hQ8.out.2.2.1.1
    have k82 := hQ8.out.2.2.1.2.2
    refine ⟨_, rfl, ⟨by simpa using hq8, ⟨by simp [go_sem, h80], by simp [go_sem, hb8], by simp [go_sem, h82]⟩, ⟨by simp [go_sem, k80], by simp [go_sem, hf8], by simp [go_sem, k82]⟩, hQ8.out.2.2.2.1.only (hSy _) hne6, hQ8.out.2.2.2.2⟩, Only.setCell (S := tch q v) hO8.out (Or.inl (show tch q v q from Or.inl rfl)) _, fun g h => (hat6 g h).imp_right fun h => Nat.le_trans hE5.out.size h⟩
end Go.Proofs.YtoeiemeffiiidaaDoor

namespace Go.Proofs.YtoeiemeffiiidaaDoor
set_option maxRecDepth 100000
set_option linter.unusedSimpArgs false
set_option linter.unusedVariables false
open Go.RowKit

theorem held_isNil (A : Option Addr) (n c : Nat) (w : World) : (binOp .eql 79 (.slice A n c) (.slice none 0 0)).run Tryd.prog w = .ok (.bool A.isNone) w := Lib.run_eql_slice_nil w _ _ _ _ _ _ _ Tryd.underlying79
attribute [local go_sem] held_isNil
theorem hdList_ones (l : List Hd) : ∀ u ∈ hdList l, u.oneCell' = true := by
  intro u hu
  obtain ⟨h, _, hu⟩ := List.mem_flatMap.1 hu
  exact hd_one h u hu
set_option maxRecDepth 100000 in
set_option maxHeartbeats 4000000 in
theorem clone_13 (A : Option Addr) (n c : Nat) (l : List Hd) (w : World) (hn : l.length = n) (hb : n ≤ 1000000) (hsrc : ∀ a, A = some a → ∀ j u, (hdList l)[j]? = some u → w.cell? (a.add j) = some u) (hlt : ∀ a, A = some a → 0 < n → a.block < w.heap.size) (hnil : A = none → n = 0) (hA : ∀ a, A = some a → ∃ g o, a = ⟨g, o, none⟩) :
    Calls Tryd.prog 56 #[.slice A n c] w fun e w' => ∃ v', e = .returned v' ∧ Hid (w'.ownsRow w.heap.size 78 3 v' n (hdList l)) ∧ Ext w w' := by
  obtain ⟨i0, z0, hi0, hz0, hz1, hz2, hz3⟩ := held_info
  have HN := hid hn
  clear hn
  rcases A with _ | a
  · obtain rfl := hnil rfl
    obtain rfl : l = [] := List.eq_nil_of_length_eq_zero HN.out
    go_enter Tryd.func56, Tryd.ntmps56
    go_wp2
    go_ret
    exact ⟨_, rfl, hid (World.ownsRow_nil _ _ _ _), (by repeat (first | (with_reducible exact Ext.refl _) | (with_reducible refine Ext.undrew ?_) | (with_reducible refine Ext.grow ?_ _) | (with_reducible refine Ext.drew ?_) | (with_reducible refine Ext.drewN ?_ _) | (with_reducible refine Ext.alloc ?_ _) | (with_reducible assumption) | ((with_reducible refine Ext.setCell ?_ ?_ _); rotate_left; (first | exact Nat.le_refl _ | ((try dsimp only); (try simp only [World.size_alloc, grow_size, World.size_setCell]); omega)))))⟩
  · have HS := hid (hsrc a rfl)
    have HL := hid (hlt a rfl)
    obtain ⟨ab, ao, rfl⟩ := hA a rfl
    clear hsrc hlt hnil hA
    go_enter Tryd.func56, Tryd.ntmps56
    go_wp2_with (at_builtin; refine wpList_append_own _ rfl _ _ 79 rfl w.heap.size 78 i0 z0 3 24 Tryd.underlying79 hi0 hz0 hz2 hz3 hz1 (by decide) _ _ _ rfl (owns_empty w 78 3) ⟨ab, ao, none⟩ n c (hdList l) rfl (by rw [hdList_length, HN.out]) ?c1 (hdList_ones l) ?c3 ?c4 ?c5 ?_)
    case c1 =>
      intro j u hj
      have hl := (List.getElem?_eq_some_iff.1 hj).1
      rw [hdList_length, HN.out] at hl
      have h1 := HS.out j u hj
      have hb2 := HL.out (by omega)
      rw [Addr.add_lit] at h1
      (try rw [Addr.add_lit])
      rw [(Ext.alloc (Ext.refl w) _).cells ab _ hb2]
      exact h1
    case c3 => unfold maxLen; omega
    case c4 => omega
    (try case c5 => first | omega | simp)
    intro v' w1 hown1 hgrow _
    (try simp only [Nat.zero_add, List.nil_append] at hown1)
    have hx : Ext w w1 := Ext.only (Ext.alloc (Ext.refl w) _) (grownOnly (S := fun i => i = w.heap.size) hgrow (fun g hg => by simpa [Value.ownBlock, eq_comm] using hg)) (by rintro i rfl; exact Nat.le_refl _)
    have hown1 := hid hown1
    clear hgrow
    go_wp2
    go_ret
    exact ⟨_, rfl, hown1, hx⟩
set_option maxRecDepth 100000 in
set_option maxHeartbeats 4000000 in
theorem qall_ (q base : Nat) (full bytes : Int) (v : Value) (l : List Hd) (w : World) (h : Qs w q base full bytes v l) (hl : l.length ≤ 1000000) : Calls Tryd.prog 35 #[.pointer (some ⟨q, 0, none⟩)] w fun e w' => ∃ v', e = .returned v' ∧ Hid (w'.ownsRow w.heap.size 78 3 v' l.length (hdList l)) ∧ Ext w w' := by
  obtain ⟨A, ca, rfl, hca, hnone⟩ := h.2.2.2.1.shape
  obtain ⟨hq, ⟨a0, a1, a2⟩, _, ho, _⟩ := h
  have HO := hid ho
  clear ho
  have hc : ∀ w', w = w' → Calls Tryd.prog 56 #[.slice A l.length ca] w' fun e w'' => ∃ v', e = .returned v' ∧ Hid (w''.ownsRow w.heap.size 78 3 v' l.length (hdList l)) ∧ Ext w' w'' := by
    rintro w' rfl
    refine clone_13 A l.length ca l w rfl hl (fun a ha j u hj => ?_) (fun a ha h0 => ?_) (fun h => by have := hnone h; omega) (fun a ha => HO.out.addr (by rw [ha]))
    · have hlt := (List.getElem?_eq_some_iff.1 hj).1
      rw [hdList_length] at hlt
      obtain ⟨g, o, e, _, _, hcell, _⟩ := HO.out.at_ rfl (by omega)
      rw [ha] at e
      obtain rfl := Option.some.inj e
      rw [Addr.add_lit]
      exact hcell j u hj
    · obtain ⟨g, o, e, _, hg, _⟩ := HO.out.at_ rfl h0
      rw [ha] at e
      obtain rfl := Option.some.inj e
      exact hg
  go_enter Tryd.func35, Tryd.ntmps35
  go_wp2_with (go_at_call 56; refine Calls.mono (hc _ rfl) ?_; rintro e w1 ⟨v1, rfl, ho1, hx1⟩)
  go_ret
  exact ⟨v1, rfl, ho1, hx1⟩
end Go.Proofs.YtoeiemeffiiidaaDoor

namespace Go.Proofs.YtoeiemeffiiidaaDoor
set_option maxRecDepth 100000
set_option linter.unusedSimpArgs false
set_option linter.unusedVariables false
open Go.RowKit

/-- The document's, at block q. -/
def Rq (w : World) (q base : Nat) (full : Int) (v : Value) (l : List Hd) : Prop :=
  q < w.heap.size ∧ (w.cell? ⟨q, 0, none⟩ = some (.int .i64 full) ∧ w.cell? ⟨q, 1, none⟩ = some v) ∧
  (w.frozen? ⟨q, 0, none⟩ = false ∧ w.frozen? ⟨q, 1, none⟩ = false) ∧ ownsAt w base 78 3 v l.length (hdList l) ∧ base ≤ q ∧ ∀ g, v.ownBlock = some g → ¬ g = q
theorem Rq.only {S : Nat → Prop} {w w' : World} {q base : Nat} {full : Int} {v : Value} {l : List Hd} (h : Rq w q base full v l) (x : Only S w w') (h1 : ¬ S q) (h2 : ∀ g, v.ownBlock = some g → ¬ S g) : Rq w' q base full v l := by
  obtain ⟨hq, ⟨a0, a1⟩, ⟨f0, f1⟩, ho, hb, hn⟩ := h
  exact ⟨Nat.lt_of_lt_of_le hq x.size, ⟨(x.cells q 0 hq h1).trans a0, (x.cells q 1 hq h1).trans a1⟩, ⟨(x.frozens q 0 hq h1).trans f0, (x.frozens q 1 hq h1).trans f1⟩, ho.only x h2, hb, hn⟩
theorem Rq.ext {w w' : World} {q base : Nat} {full : Int} {v : Value} {l : List Hd} (h : Rq w q base full v l) (x : Ext w w') : Rq w' q base full v l := h.only (Only.ofExt (S := fun _ => False) x) id (fun _ _ => id)
/-- How many bytes the first k have. -/
def sumK (l : List Hd) (k : Nat) : Int := ((l.take k).map Hd.n).sum
theorem sumK_succ {l : List Hd} {k : Nat} (h : k < l.length) : sumK l (k + 1) = sumK l k + (l[k]).n := by
  unfold sumK
  rw [List.take_add_one, List.getElem?_eq_getElem h]
  simp only [Option.toList_some, List.map_append, List.map_cons, List.map_nil, List.sum_append_int, List.sum_cons, List.sum_nil, Int.add_zero]
theorem sumK_bound {l : List Hd} (hr : ∀ h ∈ l, 0 ≤ h.n ∧ h.n ≤ 16777216) : ∀ k, k ≤ l.length → 0 ≤ sumK l k ∧ sumK l k ≤ 16777216 * k
  | 0, _ => by simp [sumK]
  | k + 1, hk => by
    have := sumK_bound hr k (by omega)
    have := hr l[k] (List.getElem_mem _)
    rw [sumK_succ (by omega)]
    omega
end Go.Proofs.YtoeiemeffiiidaaDoor

namespace Go.Proofs.YtoeiemeffiiidaaDoor
set_option maxRecDepth 100000
set_option linter.unusedSimpArgs false
set_option linter.unusedVariables false
open Go.RowKit

attribute [local go_sem ↓] Go.wp_at_zero Go.wp_at_succ
/-- A slice of what was freed, to be read. -/
def RdH (w : World) (A : Option Addr) (l : List Hd) : Prop := 0 < l.length → ∃ b o, A = some ⟨b, o, none⟩ ∧ b < w.heap.size ∧ ∀ j u, (hdList l)[j]? = some u → w.cell? ⟨b, o + j, none⟩ = some u
theorem RdH.ext {w w' : World} {A : Option Addr} {l : List Hd} (h : RdH w A l) (x : Ext w w') : RdH w' A l := fun h0 => by
  obtain ⟨b, o, e, hb, hc⟩ := h h0
  exact ⟨b, o, e, Nat.lt_of_lt_of_le hb x.size, fun j u hj => (x.cells b _ hb).trans (hc j u hj)⟩
theorem RdH.three {w : World} {A : Option Addr} {l : List Hd} (h : RdH w A l) {k : Nat} (hk : k < l.length) : ∃ b o, A = some ⟨b, o, none⟩ ∧ b < w.heap.size ∧ w.cell? ⟨b, o + k * 3, none⟩ = some (.int .i64 (l[k]).at_) ∧ w.cell? ⟨b, o + k * 3 + 1, none⟩ = some (.int .i64 (l[k]).n) ∧ w.cell? ⟨b, o + k * 3 + 2, none⟩ = some (.int .i64 (l[k]).time) := by
  obtain ⟨b, o, e, hb, hc⟩ := h (by omega)
  refine ⟨b, o, e, hb, ?_, ?_, ?_⟩
  · exact hc (k * 3 + 0) _ (by rw [hdList_at l k 0 hk (by omega)]; rfl)
  · rw [Nat.add_assoc]; exact hc (k * 3 + 1) _ (by rw [hdList_at l k 1 hk (by omega)]; rfl)
  · rw [Nat.add_assoc]; exact hc (k * 3 + 2) _ (by rw [hdList_at l k 2 hk (by omega)]; rfl)
theorem ownsAt.rdH {w : World} {base n c : Nat} {A : Option Addr} {l : List Hd} (h : ownsAt w base 78 3 (.slice A n c) n (hdList l)) (hn : l.length = n) : RdH w A l := fun h0 => by
  obtain ⟨g, o, e, _, hg, hc, _⟩ := h.at_ rfl (by omega)
  exact ⟨g, _, e, hg, hc⟩
end Go.Proofs.YtoeiemeffiiidaaDoor

namespace Go.Proofs.YtoeiemeffiiidaaDoor
set_option maxRecDepth 100000
set_option linter.unusedSimpArgs false
set_option linter.unusedVariables false
open Go.RowKit

theorem wpList_append_nothing {P : Program} {w : World} {ops : Array Oper} {rest : List Oper} {o : Oper} {a : Act} {Q : Exit → Act → World → Prop} (hgd : o.guard = none) (s x : Operand) (t : TypeId)
    (ho : o.op = .call { callee := .builtin .append, args := #[s, x], argTypes := #[t, t] }) (e : TypeId) (i : TypeInfo) (ht : P.underlying t = some (.slice e)) (hi : P.info? e = some i)
    (base : Option Addr) (n cap c : Nat) (hle : n ≤ cap) (hs : a.eval s = .slice base n cap) (hx : a.eval x = .slice none 0 c)
    (h : wpList P ops Q rest (a.put o.dst (.slice base n cap)) w) : wpList P ops Q (o :: rest) a w :=
  wpList_plain hgd fun K hK => by
    have hr := run_append_nothing (P := P) w t t o.type e i ht hi base n cap hle (.slice none 0 c) (Src.ofNil w ht c)
    unfold Oper.wp execOp
    simp only [ho, resolve, invoke, builtin, Sem.run_bind, Sem.run_pure, Result.andThen_ok, List.map_toArray, List.map_cons, List.map_nil, hs, hx, hr]
    exact hK _ _ h
end Go.Proofs.YtoeiemeffiiidaaDoor

namespace Go.Proofs.YtoeiemeffiiidaaDoor
set_option maxRecDepth 100000
set_option linter.unusedSimpArgs false
set_option linter.unusedVariables false
open Go.RowKit

end Go.Proofs.YtoeiemeffiiidaaDoor

namespace Go.Proofs.YtoeiemeffiiidaaDoor
set_option maxRecDepth 100000
set_option linter.unusedSimpArgs false
set_option linter.unusedVariables false
open Go.RowKit

attribute [local go_sem] Oper.semAt_some
set_option maxRecDepth 100000 in
set_option maxHeartbeats 4000000 in
theorem due_ (q : Nat) (now : Int) (w : World) : Calls Tryd.prog 58 #[.pointer (some ⟨q, 0, none⟩), .int .i64 now] w fun e w' => e = .returned (.func (.func 72) #[] #[.pointer (some ⟨w.heap.size, 0, none⟩), .pointer (some ⟨w.heap.size + 1, 0, none⟩)]) ∧ w' = (w.alloc (.cells #[.pointer (some ⟨q, 0, none⟩)] 63)).alloc (.cells #[.int .i64 now] 2) := by
  go_enter Tryd.func58, Tryd.ntmps58
  go_wp2
  go_ret
  exact ⟨rfl, rfl⟩
/-- Which are due. -/
def dueB (now : Int) (h : Hd) : Bool := decide (whenT h.time ≤ now)
theorem tw_go {α : Type} (p : α → Bool) : ∀ (l : List α) (k : Nat), k ≤ (l.takeWhile p).length → ∀ (h : k < l.length), p l[k] = true → k + 1 ≤ (l.takeWhile p).length
  | [], k, _, h, _ => by simp at h
  | x :: l, 0, _, _, hp => by simp only [List.getElem_cons_zero] at hp; simp [List.takeWhile, hp]
  | x :: l, k + 1, hk, h, hp => by
    cases hx : p x with
    | false => simp [List.takeWhile, hx] at hk
    | true =>
      simp only [List.takeWhile, hx, List.length_cons] at hk ⊢
      have := tw_go p l k (by omega) (by simpa using h) (by simpa using hp)
      omega
theorem tw_stop {α : Type} (p : α → Bool) : ∀ (l : List α) (k : Nat), k ≤ (l.takeWhile p).length → ∀ (h : k < l.length), p l[k] = false → l.take k = l.takeWhile p
  | [], k, _, h, _ => by simp at h
  | x :: l, 0, _, _, hp => by simp only [List.getElem_cons_zero] at hp; simp [List.takeWhile, hp]
  | x :: l, k + 1, hk, h, hp => by
    cases hx : p x with
    | false => simp [List.takeWhile, hx] at hk
    | true =>
      simp only [List.takeWhile, hx, List.length_cons] at hk ⊢
      rw [List.take_succ_cons, tw_stop p l k (by omega) (by simpa using h) (by simpa using hp)]
theorem tw_end {α : Type} (p : α → Bool) : ∀ (l : List α) (k : Nat), k ≤ (l.takeWhile p).length → l.length ≤ k → l.take k = l.takeWhile p
  | [], k, _, _ => by simp
  | x :: l, 0, _, h => by simp at h
  | x :: l, k + 1, hk, h => by
    cases hx : p x with
    | false => simp [List.takeWhile, hx] at hk
    | true =>
      simp only [List.takeWhile, hx, List.length_cons] at hk ⊢
      rw [List.take_succ_cons, tw_end p l k (by omega) (by simpa using h)]
/-- What a round keeps: all but the one's own block, and what lies behind. -/
def keepS (q lb n₀ : Nat) : Nat → Prop := fun i => i = q ∨ i = lb ∨ n₀ ≤ i
theorem gives_grown {W W' : World} (h : Ext W W') : W.grownBy W' none := ⟨h.os, h.tape, h.output, h.size, fun k hk _ => h.block k hk⟩
theorem wpIn_gen {F : Fence} {n : Nat} {P : Program} {a : Act} {Q : Exit → Act → World → Prop} {c : Code} {w : World} (I : World → Prop) (hI : I w) (h : ∀ w', I w' → c.wpIn F n P Q a w') : c.wpIn F n P Q a w := h w hI
theorem wpAnyIn_gen {F : Fence} {n : Nat} {P : Program} {md : Region.Mode} {ops : Array Oper} {fuel : Nat} {listed : Array Bool} {a : Act} {Q : Exit → Act → World → Prop} {w : World} (I : World → Prop) (hI : I w) (h : ∀ w', I w' → wpAnyIn F n P md ops Q fuel listed a w') : wpAnyIn F n P md ops Q fuel listed a w := h w hI
theorem Row.drew {w : World} {b o : Nat} {cs : List Value} (h : Row w b o cs) : Row w.drew b o cs := h.ext (Ext.drew (Ext.refl _))
set_option maxRecDepth 100000 in
set_option maxHeartbeats 4000000 in
theorem dueA_ (n : Nat) (hn : 2 ≤ n) (l0 q lb qb nb n₀ : Nat) (now : Int) (A : Option Addr) (ca m : Nat) (l : List Hd) (hm : l.length = m) (hm1 : m ≤ 1000000) (ht : ∀ h ∈ l, 0 ≤ h.time ∧ h.time ≤ 2199023255552) (J Jx : List Hd → World → Prop)
    (hY : ∀ pre x W, J pre W → pre.length < m → YieldAt Fence.wide (n - 1) Tryd.prog l0 #[.agg x.cells.toArray] W fun e W' =>
      (e = .returned (.bool true) ∧ J (pre ++ [x]) W' ∧ Only (keepS q lb n₀) W W') ∨ (e = .returned (.bool false) ∧ Jx (pre ++ [x]) W'))
    (W : World) (hJ : AbidesFrom W.heap.size J) (hn0 : n₀ ≤ W.heap.size)
    (hqb : W.cell? ⟨qb, 0, none⟩ = some (.pointer (some ⟨q, 0, none⟩)) ∧ qb < n₀ ∧ qb ≠ q ∧ qb ≠ lb) (hnb : W.cell? ⟨nb, 0, none⟩ = some (.int .i64 now) ∧ nb < n₀ ∧ nb ≠ q ∧ nb ≠ lb)
    (hq : W.cell? ⟨q, 2, none⟩ = some (.slice A m ca)) (hA : RdH W A l) (hA1 : ∀ b o, A = some ⟨b, o, none⟩ → b < n₀ ∧ b ≠ q ∧ b ≠ lb) (h0 : J [] W) :
    CallsIn Fence.wide n Tryd.prog 72 #[.func (.yield l0) #[] #[], .pointer (some ⟨qb, 0, none⟩), .pointer (some ⟨nb, 0, none⟩)] W fun e W' => (∃ v, e = .returned v) ∧
      ((∃ ys, ys = l.takeWhile (dueB now) ∧ J ys W') ∨ (∃ pre : List Hd, True ∧ Jx pre W')) := by
  refine callsIn_of_wp Tryd.func72 rfl trivial ?_ rfl
  simp only [Tryd.ntmps72]
  simp only [List.size_toArray, List.length_cons, List.length_nil, Nat.reduceAdd, Nat.reduceSub, Array.replicate_succ, Array.replicate_zero, List.push_toArray, List.append_toArray, List.nil_append, List.cons_append]
  have HA := hid hA
  have HY := hid hY
  have HJ := hid hJ
  have HM := hid hm
  clear hA hY hJ hm
  obtain ⟨hqb, hqb1, hqb2, hqb3⟩ := hqb
  obtain ⟨hnb, hnb1, hnb2, hnb3⟩ := hnb
  gi_wp2
  gi_loopw [11] (fun i wr => ∃ k : Nat, i = .int .i64 k ∧ Hid (k ≤ (l.takeWhile (dueB now)).length) ∧ Hid (J (l.take k) wr) ∧ Hid (Only (keepS q lb n₀) W wr)) (fun i _ => m - (intOf i).toNat)
  case atStart => exact ⟨0, rfl, hid (Nat.zero_le _), hid h0, hid (Only.refl _ _)⟩
  case round =>
    obtain ⟨k, rfl, hk, hJk, hO⟩ := hrel
    by_cases hlt : k < m
    · have hkS : ∀ b o, A = some ⟨b, o, none⟩ → ¬ keepS q lb n₀ b := fun b o e h => by
        have := hA1 b o e
        rcases h with h | h | h <;> omega
      obtain ⟨b1, o1, rfl, hb1, c0, c1, c2⟩ := HA.out.three (k := k) (by rw [HM.out]; exact hlt)
      have hbS := hkS b1 o1 rfl
      have hqS : ¬ keepS q lb n₀ qb := by rintro (h | h | h) <;> omega
      have hnS : ¬ keepS q lb n₀ nb := by rintro (h | h | h) <;> omega
      have c0 := (hO.out.cells b1 _ hb1 hbS).trans c0
      have c1 := (hO.out.cells b1 _ hb1 hbS).trans c1
      have c2 := (hO.out.cells b1 _ hb1 hbS).trans c2
      have d0 := (hO.out.cells qb 0 (by omega) hqS).trans hqb
      have d1 := (hO.out.cells nb 0 (by omega) hnS).trans hnb
      have hk0 : (0 : Int) ≤ (k : Int) := by omega
      have hk1 : (k : Int) < (m : Int) := by omega
      obtain ⟨x, hx⟩ : ∃ x, l[k]'(by rw [HM.out]; exact hlt) = x := ⟨_, rfl⟩
      rw [hx] at c0 c1 c2
      have htx : 0 ≤ x.time ∧ x.time ≤ 2199023255552 := ht x (by rw [← hx]; exact List.getElem_mem _)
      have HX := hid hx
      clear hx
      gi_wp2
      refine wpIn_gen (fun W2 => Hid (Ext wr W2) ∧ Hid (Row W2 wr.heap.size 0 x.cells)) ⟨hid (by repeat (first | (with_reducible exact Ext.refl _) | (with_reducible refine Ext.undrew ?_) | (with_reducible refine Ext.grow ?_ _) | (with_reducible refine Ext.drew ?_) | (with_reducible refine Ext.drewN ?_ _) | (with_reducible refine Ext.alloc ?_ _) | (with_reducible assumption) | ((with_reducible refine Ext.setCell ?_ ?_ _); rotate_left; (first | exact Nat.le_refl _ | ((try dsimp only); (try simp only [World.size_alloc, grow_size, World.size_setCell]); omega))))), hid (Row.new wr _ _)⟩ ?_
      rintro W2 ⟨hE2, hR2⟩
      refine wpIn_region_any (by kernel_rfl) ?_
      change wpAnyIn _ _ _ _ _ _ _ _ _ (World.drew _)
      refine wpAnyIn_gen (fun W3 => Hid (Ext wr W3) ∧ Hid (Row W3 wr.heap.size 0 x.cells)) ⟨hid (Ext.drew hE2.out), hid hR2.out.drew⟩ ?_
      clear hE2 hR2
      rintro W3 ⟨hE3, hR3⟩
      have hJ3 : Hid (J (l.take k) W3) := hid (HJ.out _ wr W3 none hJk.out (gives_grown hE3.out) (fun r e => by cases e))
      have hO3 := hid (Only.transExt hO.out hE3.out)
      have d3 := (hE3.out.cells nb 0 (Nat.lt_of_lt_of_le (by omega) hO.out.size)).trans d1
      generalize wr.heap.size = B at hR3 ⊢
      have e0 : W3.cell? ⟨B, 0, none⟩ = some (.int .i64 x.at_) := by simpa using hR3.out.at_ 0 _ rfl
      have e1 : W3.cell? ⟨B, 1, none⟩ = some (.int .i64 x.n) := by simpa using hR3.out.at_ 1 _ rfl
      have e2 : W3.cell? ⟨B, 2, none⟩ = some (.int .i64 x.time) := by simpa using hR3.out.at_ 2 _ rfl
      have ht0 : -9223372036854775808 ≤ x.time := by omega
      have ht1 : x.time ≤ 9223372036854775807 := by omega
      by_cases hdue : now < whenT x.time
      · have hdd : decide (now < whenT x.time) = true := by simpa using hdue
        refine wpAnyIn_take (i := 0) (v := ?_) rfl rfl (by kernel_rfl) (by kernel_rfl) (by kernel_rfl) (fun _ _ _ h => h) ⟨Or.inl ⟨by rfl, ?_⟩, fun _ => rfl⟩ ?_
        rotate_left
        · intro w; go_simp; (try with_reducible rfl)
        refine wpAnyIn_ready (rs := [1, 3]) (by kernel_rfl) (by simp) ?_
        refine AllReadyIn.cons rfl (fun K hK => ?_) ?_
        · go_simp
          refine hK _ _ ?_
          clear hK K
          refine wpAnyIn_ready (rs := [2, 3]) (by kernel_rfl) (by simp) ?_
          refine AllReadyIn.cons rfl (fun K hK => ?_) ?_
          · go_simp; refine ⟨trivial, (fun _ => by omega), ?_⟩; refine CallsIn.mono (callsIn_wide.2 (when_ _ _ ht0 ht1)) ?_; rintro e w1 ⟨rfl, rfl⟩; (try simp only [])
            refine hK _ _ ?_
            clear hK K
            refine wpAnyIn_ready (rs := [3]) (by kernel_rfl) (by simp) ?_
            refine AllReadyIn.cons rfl (fun K hK => ?_) ?_
            · go_simp
              refine hK _ _ ?_
              clear hK K
              refine wpAnyIn_take (i := 4) (v := ?_) rfl rfl (by kernel_rfl) (by kernel_rfl) (by kernel_rfl) (fun _ _ _ h => h) ⟨Or.inl ⟨by rfl, ?_⟩, fun _ => rfl⟩ ?_
              rotate_left
              · intro w; go_simp; (try with_reducible rfl)
              refine wpAnyIn_take (i := 5) (v := ?_) rfl rfl (by kernel_rfl) (by kernel_rfl) (by kernel_rfl) (fun _ _ _ h => h) ⟨Or.inl ⟨by rfl, ?_⟩, fun _ => rfl⟩ ?_
              rotate_left
              · intro w; go_simp; (try with_reducible rfl)
              refine wpAnyIn_ready (rs := [6, 7]) (by kernel_rfl) (by simp) ?_
              refine AllReadyIn.cons rfl (fun K hK => ?_) ?_
              · go_simp
                refine hK _ _ ?_
                clear hK K
                refine wpAnyIn_ready (rs := [7]) (by kernel_rfl) (by simp) ?_
                refine AllReadyIn.cons rfl (fun K hK => ?_) ?_
                · go_simp
                  refine hK _ _ ?_
                  clear hK K
                  refine wpAnyIn_ready (rs := [8]) (by kernel_rfl) (by simp) ?_
                  refine AllReadyIn.cons rfl (fun K hK => ?_) ?_
                  · (try go_simp); refine ⟨fun _ _ => trivial, ?_⟩
                    refine hK _ _ ?_
                    clear hK K
                    refine wpAnyIn_ready (rs := [9]) (by kernel_rfl) (by simp) ?_
                    refine AllReadyIn.cons rfl (fun K hK => ?_) ?_
                    · go_simp
                      refine hK _ _ ?_
                      clear hK K
                      refine wpAnyIn_take (i := 10) (v := ?_) rfl rfl (by kernel_rfl) (by kernel_rfl) (by kernel_rfl) (fun _ _ _ h => h) ⟨Or.inl ⟨by rfl, ?_⟩, fun _ => rfl⟩ ?_
                      rotate_left
                      · intro w; go_simp; (try with_reducible rfl)
                      refine wpAnyIn_done (by kernel_rfl) ?_ _
                      gi_wp2
                      refine bodyPost_ret (results_none rfl _ _ _) rfl ?_
                      exact ⟨⟨_, rfl⟩, .inl ⟨_, tw_stop _ l k hk.out (by rw [HM.out]; exact hlt) (by rw [HX.out]; simpa [dueB] using hdue), hJ3.out⟩⟩
                    exact AllReadyIn.nil
                  exact AllReadyIn.nil
                exact AllReadyIn.nil
              refine AllReadyIn.cons rfl (fun K hK => ?_) ?_
              · go_simp
                refine hK _ _ ?_
                clear hK K
                refine wpAnyIn_ready (rs := [6]) (by kernel_rfl) (by simp) ?_
                refine AllReadyIn.cons rfl (fun K hK => ?_) ?_
                · go_simp
                  refine hK _ _ ?_
                  clear hK K
                  refine wpAnyIn_ready (rs := [8]) (by kernel_rfl) (by simp) ?_
                  refine AllReadyIn.cons rfl (fun K hK => ?_) ?_
                  · (try go_simp); refine ⟨fun _ _ => trivial, ?_⟩
                    refine hK _ _ ?_
                    clear hK K
                    refine wpAnyIn_ready (rs := [9]) (by kernel_rfl) (by simp) ?_
                    refine AllReadyIn.cons rfl (fun K hK => ?_) ?_
                    · go_simp
                      refine hK _ _ ?_
                      clear hK K
                      refine wpAnyIn_take (i := 10) (v := ?_) rfl rfl (by kernel_rfl) (by kernel_rfl) (by kernel_rfl) (fun _ _ _ h => h) ⟨Or.inl ⟨by rfl, ?_⟩, fun _ => rfl⟩ ?_
                      rotate_left
                      · intro w; go_simp; (try with_reducible rfl)
                      refine wpAnyIn_done (by kernel_rfl) ?_ _
                      gi_wp2
                      refine bodyPost_ret (results_none rfl _ _ _) rfl ?_
                      exact ⟨⟨_, rfl⟩, .inl ⟨_, tw_stop _ l k hk.out (by rw [HM.out]; exact hlt) (by rw [HX.out]; simpa [dueB] using hdue), hJ3.out⟩⟩
                    exact AllReadyIn.nil
                  exact AllReadyIn.nil
                exact AllReadyIn.nil
              exact AllReadyIn.nil
            exact AllReadyIn.nil
          refine AllReadyIn.cons rfl (fun K hK => ?_) ?_
          · go_simp
            refine hK _ _ ?_
            clear hK K
            refine wpAnyIn_ready (rs := [2]) (by kernel_rfl) (by simp) ?_
            refine AllReadyIn.cons rfl (fun K hK => ?_) ?_
            · go_simp; refine ⟨trivial, (fun _ => by omega), ?_⟩; refine CallsIn.mono (callsIn_wide.2 (when_ _ _ ht0 ht1)) ?_; rintro e w1 ⟨rfl, rfl⟩; (try simp only [])
              refine hK _ _ ?_
              clear hK K
              refine wpAnyIn_take (i := 4) (v := ?_) rfl rfl (by kernel_rfl) (by kernel_rfl) (by kernel_rfl) (fun _ _ _ h => h) ⟨Or.inl ⟨by rfl, ?_⟩, fun _ => rfl⟩ ?_
              rotate_left
              · intro w; go_simp; (try with_reducible rfl)
              refine wpAnyIn_take (i := 5) (v := ?_) rfl rfl (by kernel_rfl) (by kernel_rfl) (by kernel_rfl) (fun _ _ _ h => h) ⟨Or.inl ⟨by rfl, ?_⟩, fun _ => rfl⟩ ?_
              rotate_left
              · intro w; go_simp; (try with_reducible rfl)
              refine wpAnyIn_ready (rs := [6, 7]) (by kernel_rfl) (by simp) ?_
              refine AllReadyIn.cons rfl (fun K hK => ?_) ?_
              · go_simp
                refine hK _ _ ?_
                clear hK K
                refine wpAnyIn_ready (rs := [7]) (by kernel_rfl) (by simp) ?_
                refine AllReadyIn.cons rfl (fun K hK => ?_) ?_
                · go_simp
                  refine hK _ _ ?_
                  clear hK K
                  refine wpAnyIn_ready (rs := [8]) (by kernel_rfl) (by simp) ?_
                  refine AllReadyIn.cons rfl (fun K hK => ?_) ?_
                  · (try go_simp); refine ⟨fun _ _ => trivial, ?_⟩
                    refine hK _ _ ?_
                    clear hK K
                    refine wpAnyIn_ready (rs := [9]) (by kernel_rfl) (by simp) ?_
                    refine AllReadyIn.cons rfl (fun K hK => ?_) ?_
                    · go_simp
                      refine hK _ _ ?_
                      clear hK K
                      refine wpAnyIn_take (i := 10) (v := ?_) rfl rfl (by kernel_rfl) (by kernel_rfl) (by kernel_rfl) (fun _ _ _ h => h) ⟨Or.inl ⟨by rfl, ?_⟩, fun _ => rfl⟩ ?_
                      rotate_left
                      · intro w; go_simp; (try with_reducible rfl)
                      refine wpAnyIn_done (by kernel_rfl) ?_ _
                      gi_wp2
                      refine bodyPost_ret (results_none rfl _ _ _) rfl ?_
                      exact ⟨⟨_, rfl⟩, .inl ⟨_, tw_stop _ l k hk.out (by rw [HM.out]; exact hlt) (by rw [HX.out]; simpa [dueB] using hdue), hJ3.out⟩⟩
                    exact AllReadyIn.nil
                  exact AllReadyIn.nil
                exact AllReadyIn.nil
              refine AllReadyIn.cons rfl (fun K hK => ?_) ?_
              · go_simp
                refine hK _ _ ?_
                clear hK K
                refine wpAnyIn_ready (rs := [6]) (by kernel_rfl) (by simp) ?_
                refine AllReadyIn.cons rfl (fun K hK => ?_) ?_
                · go_simp
                  refine hK _ _ ?_
                  clear hK K
                  refine wpAnyIn_ready (rs := [8]) (by kernel_rfl) (by simp) ?_
                  refine AllReadyIn.cons rfl (fun K hK => ?_) ?_
                  · (try go_simp); refine ⟨fun _ _ => trivial, ?_⟩
                    refine hK _ _ ?_
                    clear hK K
                    refine wpAnyIn_ready (rs := [9]) (by kernel_rfl) (by simp) ?_
                    refine AllReadyIn.cons rfl (fun K hK => ?_) ?_
                    · go_simp
                      refine hK _ _ ?_
                      clear hK K
                      refine wpAnyIn_take (i := 10) (v := ?_) rfl rfl (by kernel_rfl) (by kernel_rfl) (by kernel_rfl) (fun _ _ _ h => h) ⟨Or.inl ⟨by rfl, ?_⟩, fun _ => rfl⟩ ?_
                      rotate_left
                      · intro w; go_simp; (try with_reducible rfl)
                      refine wpAnyIn_done (by kernel_rfl) ?_ _
                      gi_wp2
                      refine bodyPost_ret (results_none rfl _ _ _) rfl ?_
                      exact ⟨⟨_, rfl⟩, .inl ⟨_, tw_stop _ l k hk.out (by rw [HM.out]; exact hlt) (by rw [HX.out]; simpa [dueB] using hdue), hJ3.out⟩⟩
                    exact AllReadyIn.nil
                  exact AllReadyIn.nil
                exact AllReadyIn.nil
              exact AllReadyIn.nil
            exact AllReadyIn.nil
          exact AllReadyIn.nil
        refine AllReadyIn.cons rfl (fun K hK => ?_) ?_
        · go_simp
          refine hK _ _ ?_
          clear hK K
          refine wpAnyIn_ready (rs := [1]) (by kernel_rfl) (by simp) ?_
          refine AllReadyIn.cons rfl (fun K hK => ?_) ?_
          · go_simp
            refine hK _ _ ?_
            clear hK K
            refine wpAnyIn_ready (rs := [2]) (by kernel_rfl) (by simp) ?_
            refine AllReadyIn.cons rfl (fun K hK => ?_) ?_
            · go_simp; refine ⟨trivial, (fun _ => by omega), ?_⟩; refine CallsIn.mono (callsIn_wide.2 (when_ _ _ ht0 ht1)) ?_; rintro e w1 ⟨rfl, rfl⟩; (try simp only [])
              refine hK _ _ ?_
              clear hK K
              refine wpAnyIn_take (i := 4) (v := ?_) rfl rfl (by kernel_rfl) (by kernel_rfl) (by kernel_rfl) (fun _ _ _ h => h) ⟨Or.inl ⟨by rfl, ?_⟩, fun _ => rfl⟩ ?_
              rotate_left
              · intro w; go_simp; (try with_reducible rfl)
              refine wpAnyIn_take (i := 5) (v := ?_) rfl rfl (by kernel_rfl) (by kernel_rfl) (by kernel_rfl) (fun _ _ _ h => h) ⟨Or.inl ⟨by rfl, ?_⟩, fun _ => rfl⟩ ?_
              rotate_left
              · intro w; go_simp; (try with_reducible rfl)
              refine wpAnyIn_ready (rs := [6, 7]) (by kernel_rfl) (by simp) ?_
              refine AllReadyIn.cons rfl (fun K hK => ?_) ?_
              · go_simp
                refine hK _ _ ?_
                clear hK K
                refine wpAnyIn_ready (rs := [7]) (by kernel_rfl) (by simp) ?_
                refine AllReadyIn.cons rfl (fun K hK => ?_) ?_
                · go_simp
                  refine hK _ _ ?_
                  clear hK K
                  refine wpAnyIn_ready (rs := [8]) (by kernel_rfl) (by simp) ?_
                  refine AllReadyIn.cons rfl (fun K hK => ?_) ?_
                  · (try go_simp); refine ⟨fun _ _ => trivial, ?_⟩
                    refine hK _ _ ?_
                    clear hK K
                    refine wpAnyIn_ready (rs := [9]) (by kernel_rfl) (by simp) ?_
                    refine AllReadyIn.cons rfl (fun K hK => ?_) ?_
                    · go_simp
                      refine hK _ _ ?_
                      clear hK K
                      refine wpAnyIn_take (i := 10) (v := ?_) rfl rfl (by kernel_rfl) (by kernel_rfl) (by kernel_rfl) (fun _ _ _ h => h) ⟨Or.inl ⟨by rfl, ?_⟩, fun _ => rfl⟩ ?_
                      rotate_left
                      · intro w; go_simp; (try with_reducible rfl)
                      refine wpAnyIn_done (by kernel_rfl) ?_ _
                      gi_wp2
                      refine bodyPost_ret (results_none rfl _ _ _) rfl ?_
                      exact ⟨⟨_, rfl⟩, .inl ⟨_, tw_stop _ l k hk.out (by rw [HM.out]; exact hlt) (by rw [HX.out]; simpa [dueB] using hdue), hJ3.out⟩⟩
                    exact AllReadyIn.nil
                  exact AllReadyIn.nil
                exact AllReadyIn.nil
              refine AllReadyIn.cons rfl (fun K hK => ?_) ?_
              · go_simp
                refine hK _ _ ?_
                clear hK K
                refine wpAnyIn_ready (rs := [6]) (by kernel_rfl) (by simp) ?_
                refine AllReadyIn.cons rfl (fun K hK => ?_) ?_
                · go_simp
                  refine hK _ _ ?_
                  clear hK K
                  refine wpAnyIn_ready (rs := [8]) (by kernel_rfl) (by simp) ?_
                  refine AllReadyIn.cons rfl (fun K hK => ?_) ?_
                  · (try go_simp); refine ⟨fun _ _ => trivial, ?_⟩
                    refine hK _ _ ?_
                    clear hK K
                    refine wpAnyIn_ready (rs := [9]) (by kernel_rfl) (by simp) ?_
                    refine AllReadyIn.cons rfl (fun K hK => ?_) ?_
                    · go_simp
                      refine hK _ _ ?_
                      clear hK K
                      refine wpAnyIn_take (i := 10) (v := ?_) rfl rfl (by kernel_rfl) (by kernel_rfl) (by kernel_rfl) (fun _ _ _ h => h) ⟨Or.inl ⟨by rfl, ?_⟩, fun _ => rfl⟩ ?_
                      rotate_left
                      · intro w; go_simp; (try with_reducible rfl)
                      refine wpAnyIn_done (by kernel_rfl) ?_ _
                      gi_wp2
                      refine bodyPost_ret (results_none rfl _ _ _) rfl ?_
                      exact ⟨⟨_, rfl⟩, .inl ⟨_, tw_stop _ l k hk.out (by rw [HM.out]; exact hlt) (by rw [HX.out]; simpa [dueB] using hdue), hJ3.out⟩⟩
                    exact AllReadyIn.nil
                  exact AllReadyIn.nil
                exact AllReadyIn.nil
              exact AllReadyIn.nil
            exact AllReadyIn.nil
          exact AllReadyIn.nil
        exact AllReadyIn.nil

      · have hdd : decide (now < whenT x.time) = false := by simpa using hdue
        obtain ⟨fn, tmps, assign, body, hy, hR⟩ := HY.out (l.take k) x W3 hJ3.out (by rw [List.length_take, HM.out]; omega)
        have hy : (Instr.yield l0 #[Value.agg #[.int .i64 x.at_, .int .i64 x.n, .int .i64 x.time]]).run Tryd.prog W3 = .ok (.round l0 fn tmps assign body) W3 := hy
        clear HY
        refine wpAnyIn_take (i := 0) (v := ?_) rfl rfl (by kernel_rfl) (by kernel_rfl) (by kernel_rfl) (fun _ _ _ h => h) ⟨Or.inl ⟨by rfl, ?_⟩, fun _ => rfl⟩ ?_
        rotate_left
        · intro w; go_simp; (try with_reducible rfl)
        refine wpAnyIn_ready (rs := [1, 3]) (by kernel_rfl) (by simp) ?_
        refine AllReadyIn.cons rfl (fun K hK => ?_) ?_
        · go_simp
          refine hK _ _ ?_
          clear hK K
          refine wpAnyIn_ready (rs := [2, 3]) (by kernel_rfl) (by simp) ?_
          refine AllReadyIn.cons rfl (fun K hK => ?_) ?_
          · go_simp; refine ⟨trivial, (fun _ => by omega), ?_⟩; refine CallsIn.mono (callsIn_wide.2 (when_ _ _ ht0 ht1)) ?_; rintro e w1 ⟨rfl, rfl⟩; (try simp only [])
            refine hK _ _ ?_
            clear hK K
            refine wpAnyIn_ready (rs := [3]) (by kernel_rfl) (by simp) ?_
            refine AllReadyIn.cons rfl (fun K hK => ?_) ?_
            · go_simp
              refine hK _ _ ?_
              clear hK K
              refine wpAnyIn_take (i := 4) (v := ?_) rfl rfl (by kernel_rfl) (by kernel_rfl) (by kernel_rfl) (fun _ _ _ h => h) ⟨Or.inl ⟨by rfl, ?_⟩, fun _ => rfl⟩ ?_
              rotate_left
              · intro w; go_simp; (try with_reducible rfl)
              refine wpAnyIn_take (i := 5) (v := ?_) rfl rfl (by kernel_rfl) (by kernel_rfl) (by kernel_rfl) (fun _ _ _ h => h) ⟨Or.inl ⟨by rfl, ?_⟩, fun _ => rfl⟩ ?_
              rotate_left
              · intro w; go_simp; (try with_reducible rfl)
              refine wpAnyIn_ready (rs := [6, 7]) (by kernel_rfl) (by simp) ?_
              refine AllReadyIn.cons rfl (fun K hK => ?_) ?_
              · go_simp
                refine hK _ _ ?_
                clear hK K
                refine wpAnyIn_ready (rs := [7]) (by kernel_rfl) (by simp) ?_
                refine AllReadyIn.cons rfl (fun K hK => ?_) ?_
                · go_simp
                  refine hK _ _ ?_
                  clear hK K
                  refine wpAnyIn_ready (rs := [8]) (by kernel_rfl) (by simp) ?_
                  refine AllReadyIn.cons rfl (fun K hK => ?_) ?_
                  · go_simp; refine ⟨(fun _ => by omega), ?_⟩; refine hR.mono ?_; clear hR hy; rintro e W4 (⟨rfl, hJ4, hk4⟩ | ⟨rfl, hJx4⟩)
                    · (try simp only [])
                      refine hK _ _ ?_
                      clear hK K
                      refine wpAnyIn_ready (rs := [9]) (by kernel_rfl) (by simp) ?_
                      refine AllReadyIn.cons rfl (fun K hK => ?_) ?_
                      · go_simp
                        refine hK _ _ ?_
                        clear hK K
                        refine wpAnyIn_take (i := 10) (v := ?_) rfl rfl (by kernel_rfl) (by kernel_rfl) (by kernel_rfl) (fun _ _ _ h => h) ⟨Or.inl ⟨by rfl, ?_⟩, fun _ => rfl⟩ ?_
                        rotate_left
                        · intro w; go_simp; (try with_reducible rfl)
                        refine wpAnyIn_done (by kernel_rfl) ?_ _
                        have hk1 := hk.out
                        have h4 := tw_go _ l k hk.out (by rw [HM.out]; exact hlt) (by rw [HX.out]; simpa [dueB] using hdue)
                        gi_wp2
                        go_roundw
                        case rel => exact ⟨k + 1, by go_num, hid h4, hid (by rw [List.take_succ_eq_append_getElem (by rw [HM.out]; exact hlt), HX.out]; exact hJ4), hid (hO3.out.trans' hk4)⟩
                        case measure => simp [intOf]; omega
                      exact AllReadyIn.nil
                    · (try simp only [])
                      refine hK _ _ ?_
                      clear hK K
                      refine wpAnyIn_ready (rs := [9]) (by kernel_rfl) (by simp) ?_
                      refine AllReadyIn.cons rfl (fun K hK => ?_) ?_
                      · go_simp
                        refine hK _ _ ?_
                        clear hK K
                        refine wpAnyIn_take (i := 10) (v := ?_) rfl rfl (by kernel_rfl) (by kernel_rfl) (by kernel_rfl) (fun _ _ _ h => h) ⟨Or.inl ⟨by rfl, ?_⟩, fun _ => rfl⟩ ?_
                        rotate_left
                        · intro w; go_simp; (try with_reducible rfl)
                        refine wpAnyIn_done (by kernel_rfl) ?_ _
                        gi_wp2
                        refine bodyPost_ret (results_none rfl _ _ _) rfl ?_
                        exact ⟨⟨_, rfl⟩, .inr ⟨_, (by first | exact ⟨trivial, hJx4⟩ | exact hJx4)⟩⟩
                      exact AllReadyIn.nil
                  exact AllReadyIn.nil
                exact AllReadyIn.nil
              refine AllReadyIn.cons rfl (fun K hK => ?_) ?_
              · go_simp
                refine hK _ _ ?_
                clear hK K
                refine wpAnyIn_ready (rs := [6]) (by kernel_rfl) (by simp) ?_
                refine AllReadyIn.cons rfl (fun K hK => ?_) ?_
                · go_simp
                  refine hK _ _ ?_
                  clear hK K
                  refine wpAnyIn_ready (rs := [8]) (by kernel_rfl) (by simp) ?_
                  refine AllReadyIn.cons rfl (fun K hK => ?_) ?_
                  · go_simp; refine ⟨(fun _ => by omega), ?_⟩; refine hR.mono ?_; clear hR hy; rintro e W4 (⟨rfl, hJ4, hk4⟩ | ⟨rfl, hJx4⟩)
                    · (try simp only [])
                      refine hK _ _ ?_
                      clear hK K
                      refine wpAnyIn_ready (rs := [9]) (by kernel_rfl) (by simp) ?_
                      refine AllReadyIn.cons rfl (fun K hK => ?_) ?_
                      · go_simp
                        refine hK _ _ ?_
                        clear hK K
                        refine wpAnyIn_take (i := 10) (v := ?_) rfl rfl (by kernel_rfl) (by kernel_rfl) (by kernel_rfl) (fun _ _ _ h => h) ⟨Or.inl ⟨by rfl, ?_⟩, fun _ => rfl⟩ ?_
                        rotate_left
                        · intro w; go_simp; (try with_reducible rfl)
                        refine wpAnyIn_done (by kernel_rfl) ?_ _
                        have hk1 := hk.out
                        have h4 := tw_go _ l k hk.out (by rw [HM.out]; exact hlt) (by rw [HX.out]; simpa [dueB] using hdue)
                        gi_wp2
                        go_roundw
                        case rel => exact ⟨k + 1, by go_num, hid h4, hid (by rw [List.take_succ_eq_append_getElem (by rw [HM.out]; exact hlt), HX.out]; exact hJ4), hid (hO3.out.trans' hk4)⟩
                        case measure => simp [intOf]; omega
                      exact AllReadyIn.nil
                    · (try simp only [])
                      refine hK _ _ ?_
                      clear hK K
                      refine wpAnyIn_ready (rs := [9]) (by kernel_rfl) (by simp) ?_
                      refine AllReadyIn.cons rfl (fun K hK => ?_) ?_
                      · go_simp
                        refine hK _ _ ?_
                        clear hK K
                        refine wpAnyIn_take (i := 10) (v := ?_) rfl rfl (by kernel_rfl) (by kernel_rfl) (by kernel_rfl) (fun _ _ _ h => h) ⟨Or.inl ⟨by rfl, ?_⟩, fun _ => rfl⟩ ?_
                        rotate_left
                        · intro w; go_simp; (try with_reducible rfl)
                        refine wpAnyIn_done (by kernel_rfl) ?_ _
                        gi_wp2
                        refine bodyPost_ret (results_none rfl _ _ _) rfl ?_
                        exact ⟨⟨_, rfl⟩, .inr ⟨_, (by first | exact ⟨trivial, hJx4⟩ | exact hJx4)⟩⟩
                      exact AllReadyIn.nil
                  exact AllReadyIn.nil
                exact AllReadyIn.nil
              exact AllReadyIn.nil
            exact AllReadyIn.nil
          refine AllReadyIn.cons rfl (fun K hK => ?_) ?_
          · go_simp
            refine hK _ _ ?_
            clear hK K
            refine wpAnyIn_ready (rs := [2]) (by kernel_rfl) (by simp) ?_
            refine AllReadyIn.cons rfl (fun K hK => ?_) ?_
            · go_simp; refine ⟨trivial, (fun _ => by omega), ?_⟩; refine CallsIn.mono (callsIn_wide.2 (when_ _ _ ht0 ht1)) ?_; rintro e w1 ⟨rfl, rfl⟩; (try simp only [])
              refine hK _ _ ?_
              clear hK K
              refine wpAnyIn_take (i := 4) (v := ?_) rfl rfl (by kernel_rfl) (by kernel_rfl) (by kernel_rfl) (fun _ _ _ h => h) ⟨Or.inl ⟨by rfl, ?_⟩, fun _ => rfl⟩ ?_
              rotate_left
              · intro w; go_simp; (try with_reducible rfl)
              refine wpAnyIn_take (i := 5) (v := ?_) rfl rfl (by kernel_rfl) (by kernel_rfl) (by kernel_rfl) (fun _ _ _ h => h) ⟨Or.inl ⟨by rfl, ?_⟩, fun _ => rfl⟩ ?_
              rotate_left
              · intro w; go_simp; (try with_reducible rfl)
              refine wpAnyIn_ready (rs := [6, 7]) (by kernel_rfl) (by simp) ?_
              refine AllReadyIn.cons rfl (fun K hK => ?_) ?_
              · go_simp
                refine hK _ _ ?_
                clear hK K
                refine wpAnyIn_ready (rs := [7]) (by kernel_rfl) (by simp) ?_
                refine AllReadyIn.cons rfl (fun K hK => ?_) ?_
                · go_simp
                  refine hK _ _ ?_
                  clear hK K
                  refine wpAnyIn_ready (rs := [8]) (by kernel_rfl) (by simp) ?_
                  refine AllReadyIn.cons rfl (fun K hK => ?_) ?_
                  · go_simp; refine ⟨(fun _ => by omega), ?_⟩; refine hR.mono ?_; clear hR hy; rintro e W4 (⟨rfl, hJ4, hk4⟩ | ⟨rfl, hJx4⟩)
                    · (try simp only [])
                      refine hK _ _ ?_
                      clear hK K
                      refine wpAnyIn_ready (rs := [9]) (by kernel_rfl) (by simp) ?_
                      refine AllReadyIn.cons rfl (fun K hK => ?_) ?_
                      · go_simp
                        refine hK _ _ ?_
                        clear hK K
                        refine wpAnyIn_take (i := 10) (v := ?_) rfl rfl (by kernel_rfl) (by kernel_rfl) (by kernel_rfl) (fun _ _ _ h => h) ⟨Or.inl ⟨by rfl, ?_⟩, fun _ => rfl⟩ ?_
                        rotate_left
                        · intro w; go_simp; (try with_reducible rfl)
                        refine wpAnyIn_done (by kernel_rfl) ?_ _
                        have hk1 := hk.out
                        have h4 := tw_go _ l k hk.out (by rw [HM.out]; exact hlt) (by rw [HX.out]; simpa [dueB] using hdue)
                        gi_wp2
                        go_roundw
                        case rel => exact ⟨k + 1, by go_num, hid h4, hid (by rw [List.take_succ_eq_append_getElem (by rw [HM.out]; exact hlt), HX.out]; exact hJ4), hid (hO3.out.trans' hk4)⟩
                        case measure => simp [intOf]; omega
                      exact AllReadyIn.nil
                    · (try simp only [])
                      refine hK _ _ ?_
                      clear hK K
                      refine wpAnyIn_ready (rs := [9]) (by kernel_rfl) (by simp) ?_
                      refine AllReadyIn.cons rfl (fun K hK => ?_) ?_
                      · go_simp
                        refine hK _ _ ?_
                        clear hK K
                        refine wpAnyIn_take (i := 10) (v := ?_) rfl rfl (by kernel_rfl) (by kernel_rfl) (by kernel_rfl) (fun _ _ _ h => h) ⟨Or.inl ⟨by rfl, ?_⟩, fun _ => rfl⟩ ?_
                        rotate_left
                        · intro w; go_simp; (try with_reducible rfl)
                        refine wpAnyIn_done (by kernel_rfl) ?_ _
                        gi_wp2
                        refine bodyPost_ret (results_none rfl _ _ _) rfl ?_
                        exact ⟨⟨_, rfl⟩, .inr ⟨_, (by first | exact ⟨trivial, hJx4⟩ | exact hJx4)⟩⟩
                      exact AllReadyIn.nil
                  exact AllReadyIn.nil
                exact AllReadyIn.nil
              refine AllReadyIn.cons rfl (fun K hK => ?_) ?_
              · go_simp
                refine hK _ _ ?_
                clear hK K
                refine wpAnyIn_ready (rs := [6]) (by kernel_rfl) (by simp) ?_
                refine AllReadyIn.cons rfl (fun K hK => ?_) ?_
                · go_simp
                  refine hK _ _ ?_
                  clear hK K
                  refine wpAnyIn_ready (rs := [8]) (by kernel_rfl) (by simp) ?_
                  refine AllReadyIn.cons rfl (fun K hK => ?_) ?_
                  · go_simp; refine ⟨(fun _ => by omega), ?_⟩; refine hR.mono ?_; clear hR hy; rintro e W4 (⟨rfl, hJ4, hk4⟩ | ⟨rfl, hJx4⟩)
                    · (try simp only [])
                      refine hK _ _ ?_
                      clear hK K
                      refine wpAnyIn_ready (rs := [9]) (by kernel_rfl) (by simp) ?_
                      refine AllReadyIn.cons rfl (fun K hK => ?_) ?_
                      · go_simp
                        refine hK _ _ ?_
                        clear hK K
                        refine wpAnyIn_take (i := 10) (v := ?_) rfl rfl (by kernel_rfl) (by kernel_rfl) (by kernel_rfl) (fun _ _ _ h => h) ⟨Or.inl ⟨by rfl, ?_⟩, fun _ => rfl⟩ ?_
                        rotate_left
                        · intro w; go_simp; (try with_reducible rfl)
                        refine wpAnyIn_done (by kernel_rfl) ?_ _
                        have hk1 := hk.out
                        have h4 := tw_go _ l k hk.out (by rw [HM.out]; exact hlt) (by rw [HX.out]; simpa [dueB] using hdue)
                        gi_wp2
                        go_roundw
                        case rel => exact ⟨k + 1, by go_num, hid h4, hid (by rw [List.take_succ_eq_append_getElem (by rw [HM.out]; exact hlt), HX.out]; exact hJ4), hid (hO3.out.trans' hk4)⟩
                        case measure => simp [intOf]; omega
                      exact AllReadyIn.nil
                    · (try simp only [])
                      refine hK _ _ ?_
                      clear hK K
                      refine wpAnyIn_ready (rs := [9]) (by kernel_rfl) (by simp) ?_
                      refine AllReadyIn.cons rfl (fun K hK => ?_) ?_
                      · go_simp
                        refine hK _ _ ?_
                        clear hK K
                        refine wpAnyIn_take (i := 10) (v := ?_) rfl rfl (by kernel_rfl) (by kernel_rfl) (by kernel_rfl) (fun _ _ _ h => h) ⟨Or.inl ⟨by rfl, ?_⟩, fun _ => rfl⟩ ?_
                        rotate_left
                        · intro w; go_simp; (try with_reducible rfl)
                        refine wpAnyIn_done (by kernel_rfl) ?_ _
                        gi_wp2
                        refine bodyPost_ret (results_none rfl _ _ _) rfl ?_
                        exact ⟨⟨_, rfl⟩, .inr ⟨_, (by first | exact ⟨trivial, hJx4⟩ | exact hJx4)⟩⟩
                      exact AllReadyIn.nil
                  exact AllReadyIn.nil
                exact AllReadyIn.nil
              exact AllReadyIn.nil
            exact AllReadyIn.nil
          exact AllReadyIn.nil
        refine AllReadyIn.cons rfl (fun K hK => ?_) ?_
        · go_simp
          refine hK _ _ ?_
          clear hK K
          refine wpAnyIn_ready (rs := [1]) (by kernel_rfl) (by simp) ?_
          refine AllReadyIn.cons rfl (fun K hK => ?_) ?_
          · go_simp
            refine hK _ _ ?_
            clear hK K
            refine wpAnyIn_ready (rs := [2]) (by kernel_rfl) (by simp) ?_
            refine AllReadyIn.cons rfl (fun K hK => ?_) ?_
            · go_simp; refine ⟨trivial, (fun _ => by omega), ?_⟩; refine CallsIn.mono (callsIn_wide.2 (when_ _ _ ht0 ht1)) ?_; rintro e w1 ⟨rfl, rfl⟩; (try simp only [])
              refine hK _ _ ?_
              clear hK K
              refine wpAnyIn_take (i := 4) (v := ?_) rfl rfl (by kernel_rfl) (by kernel_rfl) (by kernel_rfl) (fun _ _ _ h => h) ⟨Or.inl ⟨by rfl, ?_⟩, fun _ => rfl⟩ ?_
              rotate_left
              · intro w; go_simp; (try with_reducible rfl)
              refine wpAnyIn_take (i := 5) (v := ?_) rfl rfl (by kernel_rfl) (by kernel_rfl) (by kernel_rfl) (fun _ _ _ h => h) ⟨Or.inl ⟨by rfl, ?_⟩, fun _ => rfl⟩ ?_
              rotate_left
              · intro w; go_simp; (try with_reducible rfl)
              refine wpAnyIn_ready (rs := [6, 7]) (by kernel_rfl) (by simp) ?_
              refine AllReadyIn.cons rfl (fun K hK => ?_) ?_
              · go_simp
                refine hK _ _ ?_
                clear hK K
                refine wpAnyIn_ready (rs := [7]) (by kernel_rfl) (by simp) ?_
                refine AllReadyIn.cons rfl (fun K hK => ?_) ?_
                · go_simp
                  refine hK _ _ ?_
                  clear hK K
                  refine wpAnyIn_ready (rs := [8]) (by kernel_rfl) (by simp) ?_
                  refine AllReadyIn.cons rfl (fun K hK => ?_) ?_
                  · go_simp; refine ⟨(fun _ => by omega), ?_⟩; refine hR.mono ?_; clear hR hy; rintro e W4 (⟨rfl, hJ4, hk4⟩ | ⟨rfl, hJx4⟩)
                    · (try simp only [])
                      refine hK _ _ ?_
                      clear hK K
                      refine wpAnyIn_ready (rs := [9]) (by kernel_rfl) (by simp) ?_
                      refine AllReadyIn.cons rfl (fun K hK => ?_) ?_
                      · go_simp
                        refine hK _ _ ?_
                        clear hK K
                        refine wpAnyIn_take (i := 10) (v := ?_) rfl rfl (by kernel_rfl) (by kernel_rfl) (by kernel_rfl) (fun _ _ _ h => h) ⟨Or.inl ⟨by rfl, ?_⟩, fun _ => rfl⟩ ?_
                        rotate_left
                        · intro w; go_simp; (try with_reducible rfl)
                        refine wpAnyIn_done (by kernel_rfl) ?_ _
                        have hk1 := hk.out
                        have h4 := tw_go _ l k hk.out (by rw [HM.out]; exact hlt) (by rw [HX.out]; simpa [dueB] using hdue)
                        gi_wp2
                        go_roundw
                        case rel => exact ⟨k + 1, by go_num, hid h4, hid (by rw [List.take_succ_eq_append_getElem (by rw [HM.out]; exact hlt), HX.out]; exact hJ4), hid (hO3.out.trans' hk4)⟩
                        case measure => simp [intOf]; omega
                      exact AllReadyIn.nil
                    · (try simp only [])
                      refine hK _ _ ?_
                      clear hK K
                      refine wpAnyIn_ready (rs := [9]) (by kernel_rfl) (by simp) ?_
                      refine AllReadyIn.cons rfl (fun K hK => ?_) ?_
                      · go_simp
                        refine hK _ _ ?_
                        clear hK K
                        refine wpAnyIn_take (i := 10) (v := ?_) rfl rfl (by kernel_rfl) (by kernel_rfl) (by kernel_rfl) (fun _ _ _ h => h) ⟨Or.inl ⟨by rfl, ?_⟩, fun _ => rfl⟩ ?_
                        rotate_left
                        · intro w; go_simp; (try with_reducible rfl)
                        refine wpAnyIn_done (by kernel_rfl) ?_ _
                        gi_wp2
                        refine bodyPost_ret (results_none rfl _ _ _) rfl ?_
                        exact ⟨⟨_, rfl⟩, .inr ⟨_, (by first | exact ⟨trivial, hJx4⟩ | exact hJx4)⟩⟩
                      exact AllReadyIn.nil
                  exact AllReadyIn.nil
                exact AllReadyIn.nil
              refine AllReadyIn.cons rfl (fun K hK => ?_) ?_
              · go_simp
                refine hK _ _ ?_
                clear hK K
                refine wpAnyIn_ready (rs := [6]) (by kernel_rfl) (by simp) ?_
                refine AllReadyIn.cons rfl (fun K hK => ?_) ?_
                · go_simp
                  refine hK _ _ ?_
                  clear hK K
                  refine wpAnyIn_ready (rs := [8]) (by kernel_rfl) (by simp) ?_
                  refine AllReadyIn.cons rfl (fun K hK => ?_) ?_
                  · go_simp; refine ⟨(fun _ => by omega), ?_⟩; refine hR.mono ?_; clear hR hy; rintro e W4 (⟨rfl, hJ4, hk4⟩ | ⟨rfl, hJx4⟩)
                    · (try simp only [])
                      refine hK _ _ ?_
                      clear hK K
                      refine wpAnyIn_ready (rs := [9]) (by kernel_rfl) (by simp) ?_
                      refine AllReadyIn.cons rfl (fun K hK => ?_) ?_
                      · go_simp
                        refine hK _ _ ?_
                        clear hK K
                        refine wpAnyIn_take (i := 10) (v := ?_) rfl rfl (by kernel_rfl) (by kernel_rfl) (by kernel_rfl) (fun _ _ _ h => h) ⟨Or.inl ⟨by rfl, ?_⟩, fun _ => rfl⟩ ?_
                        rotate_left
                        · intro w; go_simp; (try with_reducible rfl)
                        refine wpAnyIn_done (by kernel_rfl) ?_ _
                        have hk1 := hk.out
                        have h4 := tw_go _ l k hk.out (by rw [HM.out]; exact hlt) (by rw [HX.out]; simpa [dueB] using hdue)
                        gi_wp2
                        go_roundw
                        case rel => exact ⟨k + 1, by go_num, hid h4, hid (by rw [List.take_succ_eq_append_getElem (by rw [HM.out]; exact hlt), HX.out]; exact hJ4), hid (hO3.out.trans' hk4)⟩
                        case measure => simp [intOf]; omega
                      exact AllReadyIn.nil
                    · (try simp only [])
                      refine hK _ _ ?_
                      clear hK K
                      refine wpAnyIn_ready (rs := [9]) (by kernel_rfl) (by simp) ?_
                      refine AllReadyIn.cons rfl (fun K hK => ?_) ?_
                      · go_simp
                        refine hK _ _ ?_
                        clear hK K
                        refine wpAnyIn_take (i := 10) (v := ?_) rfl rfl (by kernel_rfl) (by kernel_rfl) (by kernel_rfl) (fun _ _ _ h => h) ⟨Or.inl ⟨by rfl, ?_⟩, fun _ => rfl⟩ ?_
                        rotate_left
                        · intro w; go_simp; (try with_reducible rfl)
                        refine wpAnyIn_done (by kernel_rfl) ?_ _
                        gi_wp2
                        refine bodyPost_ret (results_none rfl _ _ _) rfl ?_
                        exact ⟨⟨_, rfl⟩, .inr ⟨_, (by first | exact ⟨trivial, hJx4⟩ | exact hJx4)⟩⟩
                      exact AllReadyIn.nil
                  exact AllReadyIn.nil
                exact AllReadyIn.nil
              exact AllReadyIn.nil
            exact AllReadyIn.nil
          exact AllReadyIn.nil
        exact AllReadyIn.nil

    · gi_wp2
      go_end0
      exact ⟨⟨_, rfl⟩, .inl ⟨_, tw_end _ l k hk.out (by rw [HM.out]; omega), hJk.out⟩⟩
end Go.Proofs.YtoeiemeffiiidaaDoor

namespace Go.Proofs.YtoeiemeffiiidaaDoor
set_option maxRecDepth 100000
set_option linter.unusedSimpArgs false
set_option linter.unusedVariables false
open Go.RowKit

attribute [local go_sem] Oper.semAt_some
theorem ownsRow_lt {w : World} {base : Nat} {e : TypeId} {size n : Nat} {v : Value} {xs : List Value} (h : w.ownsRow base e size v n xs) : ∀ k, v.ownBlock = some k → k < w.heap.size ∧ base ≤ k := fun k hk => ((ownsAt_of h).lt k hk).symm
theorem RdH.below {w W : World} {A : Option Addr} {l : List Hd} (h : RdH w A l) (x : Below w.heap.size w W) : RdH W A l := fun h0 => by
  obtain ⟨b, o, e, hb, hc⟩ := h h0
  exact ⟨b, o, e, Nat.lt_of_lt_of_le hb x.size, fun j u hj => (x.cell (p := ⟨b, o + j, none⟩) hb).trans (hc j u hj)⟩
/-- What is walked over. -/
theorem dueS_ (n : Nat) (hn : 2 ≤ n) (q lb qb nb : Nat) (now : Int) (A : Option Addr) (ca m : Nat) (l : List Hd) (hm : l.length = m) (hm1 : m ≤ 1000000) (ht : ∀ h ∈ l, 0 ≤ h.time ∧ h.time ≤ 2199023255552) (w : World)
    (hqb : w.cell? ⟨qb, 0, none⟩ = some (.pointer (some ⟨q, 0, none⟩)) ∧ qb < w.heap.size ∧ qb ≠ q ∧ qb ≠ lb) (hnb : w.cell? ⟨nb, 0, none⟩ = some (.int .i64 now) ∧ nb < w.heap.size ∧ nb ≠ q ∧ nb ≠ lb)
    (hq : w.cell? ⟨q, 2, none⟩ = some (.slice A m ca)) (hq1 : q < w.heap.size) (hA : RdH w A l) (hA1 : ∀ b o, A = some ⟨b, o, none⟩ → b < w.heap.size ∧ b ≠ q ∧ b ≠ lb) :
    SeqStopsK Fence.wide n Tryd.prog 72 #[.pointer (some ⟨qb, 0, none⟩), .pointer (some ⟨nb, 0, none⟩)] (fun x : Hd => #[Value.agg #[.int .i64 x.at_, .int .i64 x.n, .int .i64 x.time]]) (Only (keepS q lb w.heap.size)) (fun ys => ys = l.takeWhile (dueB now)) (fun _ => True) m w := fun l0 J Jx W hW hJ _ hY h0 =>
  dueA_ n hn l0 q lb qb nb w.heap.size now A ca m l hm hm1 ht J Jx hY W hJ hW.size ⟨(hW.cell (p := ⟨qb, 0, none⟩) hqb.2.1).trans hqb.1, hqb.2⟩ ⟨(hW.cell (p := ⟨nb, 0, none⟩) hnb.2.1).trans hnb.1, hnb.2⟩ ((hW.cell (p := ⟨q, 2, none⟩) hq1).trans hq) (hA.below hW) hA1 h0
/-- How many bytes are left when some are out. -/
def bytesF (bytes : Int) (pre : List Hd) : Int := pre.foldl (fun s x => IntKind.i64.wrap (s - x.n)) bytes
theorem bytesF_snoc (bytes : Int) (pre : List Hd) (x : Hd) : bytesF bytes (pre ++ [x]) = IntKind.i64.wrap (bytesF bytes pre - x.n) := by simp [bytesF]
/-- What a round of Due finds. -/
def DueI (W0 : World) (s0 q : Nat) (full bytes : Int) (v : Value) (pre : List Hd) (W : World) : Prop :=
  (∃ vr, Boxed W (s0 + 1) 79 vr ∧ W.ownsRow (s0 + 4) 78 3 vr pre.length (hdList pre) ∧ True) ∧ Boxed W s0 63 (.pointer (some ⟨q, 0, none⟩)) ∧
  ((W.cell? ⟨q, 0, none⟩ = some (.int .i64 full) ∧ W.frozen? ⟨q, 0, none⟩ = false) ∧ (W.cell? ⟨q, 1, none⟩ = some (.int .i64 (bytesF bytes pre)) ∧ W.frozen? ⟨q, 1, none⟩ = false) ∧ (W.cell? ⟨q, 2, none⟩ = some v ∧ W.frozen? ⟨q, 2, none⟩ = false)) ∧
  Only (keepS q (s0 + 1) W0.heap.size) W0 W
theorem grown_only {S : Nat → Prop} {a w w' : World} {row : Option Nat} (h : Only S a w) (hg : w.grownBy w' row) (hr : ∀ g, row = some g → S g) : Only S a w' := h.trans' (grownOnly hg hr)
theorem DueI.own {W0 : World} {s0 q : Nat} {full bytes : Int} {v : Value} {B : Nat} (hB : W0.heap.size ≤ B) : OwnFrom B (fun pre W => DueI W0 s0 q full bytes v pre W) := by
  rintro pre W W' row ⟨h1, h2, ⟨⟨a0, a1⟩, ⟨b0, b1⟩, c0, c1⟩, h4⟩ hg hr
  have hr' : ∀ r, row = some r → ∃ o : Obj, W.heap[r]? = some o ∧ o.isCells = false := fun r e => (hr r e).2
  exact ⟨holdsRow_own (s0 + 4) (s0 + 1) 79 78 3 (fun pre : List Hd => pre.length) (fun pre => hdList pre) (fun _ _ => True) pre W W' row h1 hg hr', boxed_own (β := Unit) s0 63 (fun _ => .pointer (some ⟨q, 0, none⟩)) () W W' row h2 hg hr',
    ⟨⟨cell_kept a0 hg hr', (frozen_kept a0 hg hr').trans a1⟩, ⟨cell_kept b0 hg hr', (frozen_kept b0 hg hr').trans b1⟩, cell_kept c0 hg hr', (frozen_kept c0 hg hr').trans c1⟩,
    grown_only h4 hg fun g e => .inr (.inr (Nat.le_trans hB (hr g e).1))⟩
theorem keepK_b {q lb n₀ : Nat} {w : World} (hn : n₀ ≤ w.heap.size) (W : World) (l : Nat) (o o' : Obj) (hl : w.heap.size ≤ l) (_ : W.heap[l]? = some o) (_ : o.isCells = false) (_ : o.isWalk = false) : Only (keepS q lb n₀) W (W.putObj l o') :=
  grownOnly (grownBy_putObj' W l o') fun g e => .inr (.inr (by cases e; omega))
theorem ownsAt.mono {w : World} {base base' : Nat} {e : TypeId} {size n : Nat} {v : Value} {xs : List Value} (h : ownsAt w base e size v n xs) (hb : base' ≤ base) : ownsAt w base' e size v n xs := by
  refine ⟨h.1, ?_⟩
  rcases h.2 with h0 | ⟨g, o, cap, cur, rfl, hbg, r⟩
  · exact .inl h0
  · exact .inr ⟨g, o, cap, cur, rfl, Nat.le_trans hb hbg, r⟩
theorem own_len (A : Option Addr) (n c n2 c2 : Nat) : (Value.slice A n c).ownBlock = (Value.slice A n2 c2).ownBlock := by cases A <;> rfl
theorem due_last (w W0 W8 : World) (q base s0 Dd n k : Nat) (full b9 : Int) (v vn vr : Value) (rest tk : List Hd) (hE0 : Ext w W0) (hs0 : w.heap.size = s0) (hq : q < s0) (hbs : base ≤ q) (hZ : W0.heap.size = s0 + 4) (hO8 : Only (keepS q (s0 + 1) W0.heap.size) W0 W8)
    (y4 : W8.cell? ⟨q, 0, none⟩ = some (.int .i64 full) ∧ W8.frozen? ⟨q, 0, none⟩ = false) (y5 : W8.cell? ⟨q, 1, none⟩ = some (.int .i64 b9) ∧ W8.frozen? ⟨q, 1, none⟩ = false) (y2 : W8.cell? ⟨q, 2, none⟩ = some v) (y3 : W8.frozen? ⟨q, 2, none⟩ = false)
    (hD : W0.heap.size ≤ Dd) (hK8 : W8.heap[Dd]? = some (.deferred (some []))) (hn : rest.length = n) (hown : ownsAt W8 base 78 3 vn n (hdList rest)) (hnq : ∀ g, vn.ownBlock = some g → g < s0 ∧ g ≠ q) (hvr : W8.ownsRow (s0 + 4) 78 3 vr k (hdList tk)) :
    Qs ((W8.setCell ⟨q, 2, none⟩ vn).putObj Dd (.deferred none)) q base full b9 vn rest ∧ ownsAt ((W8.setCell ⟨q, 2, none⟩ vn).putObj Dd (.deferred none)) s0 78 3 vr k (hdList tk) ∧ Only (fun i => i = q) w ((W8.setCell ⟨q, 2, none⟩ vn).putObj Dd (.deferred none)) := by
  have h1 : Only (fun i => i = q) W8 (W8.setCell ⟨q, 2, none⟩ vn) := Only.setCell (S := fun i => i = q) (Only.refl _ _) (.inl rfl) vn
  have h2 : Only (fun i => i = Dd) (W8.setCell ⟨q, 2, none⟩ vn) ((W8.setCell ⟨q, 2, none⟩ vn).putObj Dd (.deferred none)) := grownOnly (grownBy_putObj' _ Dd _) fun g e => by cases e; rfl
  have hsz := hO8.size
  have hs8 := h1.size
  have hqd : ¬ q = Dd := by omega
  have hdl : Dd < W8.heap.size := (Array.getElem?_eq_some_iff.1 hK8).1
  have hne : ∀ g, vr.ownBlock = some g → ¬ g = Dd := fun g e hg => by
    subst hg
    rcases hvr.2 with ⟨h0, _⟩ | ⟨g', c, cur, hv, _, hcur, _⟩
    · rw [h0] at e; cases e
    · rw [hv] at e
      simp only [Value.ownBlock, Option.some.injEq] at e
      subst e
      rw [hK8] at hcur
      cases hcur
  have hl8 := fun g hg => (ownsAt_of hvr).lt g hg
  refine ⟨⟨Nat.lt_of_lt_of_le (by omega) h2.size, ⟨(h2.cells q 0 (by omega) hqd).trans (by simp [go_sem, y4.1]), (h2.cells q 1 (by omega) hqd).trans (by simp [go_sem, y5.1]), (h2.cells q 2 (by omega) hqd).trans (by simp [go_sem, y2])⟩, ⟨(h2.frozens q 0 (by omega) hqd).trans (by simp [go_sem, y4.2]), (h2.frozens q 1 (by omega) hqd).trans (by simp [go_sem, y5.2]), (h2.frozens q 2 (by omega) hqd).trans (by simp [go_sem, y3])⟩, ?_, hbs, fun g hg => (hnq g hg).2⟩, ?_, ?_⟩
  · rw [hn]
    exact (hown.only h1 fun g hg => (hnq g hg).2).only h2 fun g hg => by have := hnq g hg; omega
  · exact ownsAt.mono (((ownsAt_of hvr).only h1 fun g hg => by have := hl8 g hg; omega).only h2 hne) (by omega)
  · refine Only.trans (Only.trans (Only.trans (S := fun i => i = q) (Only.ofExt hE0) hO8 ?_) h1 (fun i h => .inl h)) h2 (fun i h => .inr (by subst h; omega))
    rintro i (h | h | h)
    · exact .inl h
    · exact .inr (by omega)
    · exact .inr (by have := hE0.size; omega)
theorem ownsAt.slice {w : World} {base : Nat} {n c : Nat} {A : Option Addr} {l : List Hd} (h : ownsAt w base 78 3 (.slice A n c) n (hdList l)) {k : Nat} (hk : k ≤ n) : ownsAt w base 78 3 (.slice (A.map fun x => x.add (k * 3)) (n - k) (c - k)) (n - k) (hdList (l.drop k)) := by
  obtain ⟨A', h1, h2, h3⟩ := h.drop rfl hk
  rw [hdList_drop] at h3
  rcases A with _ | a
  · rw [h2 rfl] at h3
    exact h3
  · obtain ⟨g, o, rfl⟩ := h.addr rfl
    rw [h1 g o rfl] at h3
    simpa [Addr.add_lit] using h3
theorem ownsAt.own_slice {w : World} {base : Nat} {n c : Nat} {A : Option Addr} {l : List Hd} (h : ownsAt w base 78 3 (.slice A n c) n (hdList l)) (k n2 c2 : Nat) : (Value.slice (A.map fun x => x.add (k * 3)) n2 c2).ownBlock = (Value.slice A n c).ownBlock := by
  rcases A with _ | a
  · rfl
  · obtain ⟨g, o, rfl⟩ := h.addr rfl
    simp [Value.ownBlock, Addr.add_lit]
theorem ownsAt.keep8 {W0 W8 : World} {base q s0 : Nat} {A : Option Addr} {m ca : Nat} {l : List Hd} (h : ownsAt W0 base 78 3 (.slice A m ca) m (hdList l)) (hO8 : Only (keepS q (s0 + 1) W0.heap.size) W0 W8) (hq : ∀ g, (Value.slice A m ca).ownBlock = some g → g < s0 ∧ g ≠ q) (hs : s0 ≤ W0.heap.size) : ownsAt W8 base 78 3 (.slice A m ca) m (hdList l) :=
  h.only hO8 fun g hg => by
    have := hq g hg
    rintro (h | h | h) <;> omega
set_option maxRecDepth 100000 in
set_option maxHeartbeats 4000000 in
theorem qdue_ (q base : Nat) (full bytes : Int) (v : Value) (l : List Hd) (w : World) (h : Qs w q base full bytes v l) (now : Int) (hl : l.length ≤ 1000000) (ht : ∀ h ∈ l, 0 ≤ h.time ∧ h.time ≤ 2199023255552) :
    Calls Tryd.prog 38 #[.pointer (some ⟨q, 0, none⟩), .int .i64 now] w fun e w' => ∃ vr v', e = .returned vr ∧ Qs w' q base full (bytesF bytes (l.takeWhile (dueB now))) v' (l.drop (l.takeWhile (dueB now)).length) ∧ ownsAt w' w.heap.size 78 3 vr (l.takeWhile (dueB now)).length (hdList (l.takeWhile (dueB now))) ∧ Only (fun i => i = q) w w' ∧ v'.ownBlock = v.ownBlock := by
  refine (callsIn_wide (n := 6)).1 ?_
  refine callsIn_of_wp_marks Tryd.func38 rfl trivial ?_ rfl
  simp only [Tryd.ntmps38]
  simp only [List.size_toArray, List.length_cons, List.length_nil, Nat.reduceAdd, Nat.reduceSub, Array.replicate_succ, Array.replicate_zero, List.push_toArray, List.append_toArray, List.nil_append, List.cons_append]
  obtain ⟨m, hm⟩ : ∃ m, l.length = m := ⟨_, rfl⟩
  obtain ⟨A, ca, rfl, hca, hcn⟩ := h.2.2.2.1.shape
  have HQ := hid h
  have HM := hid hm
  have HT := hid ht
  rw [hm] at hl hca
  clear h hm ht
  gi_wp2_with ((try refine ⟨trivial, ?_⟩); gi_at_call 58; refine CallsIn.mono (callsIn_wide.2 (due_ _ _ _)) ?_; rintro e w1 ⟨rfl, rfl⟩)
  refine wpIn_gen (fun W => Hid (Ext w W) ∧ Hid (W.heap.size = w.heap.size + 4) ∧ Hid (Boxed W w.heap.size 63 (.pointer (some ⟨q, 0, none⟩))) ∧ Hid (Boxed W (w.heap.size + 1) 79 (.slice none 0 0)) ∧ Hid (W.cell? ⟨w.heap.size + 2, 0, none⟩ = some (.pointer (some ⟨q, 0, none⟩))) ∧ Hid (W.cell? ⟨w.heap.size + 3, 0, none⟩ = some (.int .i64 now)))
    ⟨hid (by repeat (first | (with_reducible exact Ext.refl _) | (with_reducible refine Ext.undrew ?_) | (with_reducible refine Ext.grow ?_ _) | (with_reducible refine Ext.drew ?_) | (with_reducible refine Ext.drewN ?_ _) | (with_reducible refine Ext.alloc ?_ _) | (with_reducible assumption) | ((with_reducible refine Ext.setCell ?_ ?_ _); rotate_left; (first | exact Nat.le_refl _ | ((try dsimp only); (try simp only [World.size_alloc, grow_size, World.size_setCell]); omega))))), hid (by simp), hid ?p1, hid ?p2, hid (by simp [go_sem]), hid (by simp [go_sem])⟩ ?_
  case p1 => exact (((Boxed.new w 63 (.pointer (some ⟨q, 0, none⟩))).alloc _).alloc _).alloc _
  case p2 =>
    have := ((Boxed.new (w.alloc (.cells #[.pointer (some ⟨q, 0, none⟩)] 63)) 79 (.slice none 0 0)).alloc (.cells #[.pointer (some ⟨q, 0, none⟩)] 63)).alloc (.cells #[.int .i64 now] 2)
    simpa using this
  rintro W0 ⟨hE0, hZ0, hB0, hL0, hc2, hc3⟩
  obtain ⟨s0, hs0⟩ : ∃ s, w.heap.size = s := ⟨_, rfl⟩
  rw [hs0] at hZ0 hB0 hL0 hc2 hc3 ⊢
  have hZ := hZ0.out
  have HQ0 := hid (HQ.out.ext hE0.out)
  have hq0 : q < s0 := by have := HQ.out.1; omega
  have hbs : base ≤ q := HQ.out.2.2.2.2.1
  have hone : ∀ b o, A = some ⟨b, o, none⟩ → b < s0 ∧ b ≠ q := fun b o e => by
    have h1 := HQ.out.2.2.2.1.lt b (by rw [e]; rfl)
    exact ⟨by omega, HQ.out.2.2.2.2.2 b (by rw [e]; rfl)⟩
  have hrd : RdH W0 A l := (ownsAt.rdH (n := m) (by have := HQ0.out.2.2.2.1; rw [HM.out] at this; exact this) HM.out)
  refine wpIn_rangeFunc_ownH rfl (by omega) (gf := 72) (lb := #[.pointer (some ⟨s0 + 1 + 1, 0, none⟩), .pointer (some ⟨s0 + 1 + 1 + 1, 0, none⟩)]) rfl trivial (enters_of Tryd.func72 (by kernel_rfl) rfl)
    (dueS_ 5 (by omega) q (s0 + 1) (s0 + 1 + 1) (s0 + 1 + 1 + 1) now A ca m l HM.out hl HT.out W0 ⟨hc2.out, by omega, by omega, by omega⟩ ⟨hc3.out, by omega, by omega, by omega⟩ (by have := HQ0.out.2.1.2.2; rw [HM.out] at this; exact this) (by omega) hrd (fun b o e => by have := hone b o e; omega))
    (fun h k => h.trans' k) (keepK_b (Nat.le_refl _)) (Below.refl _ _) (fun _ => rfl)
    (fun pre W => DueI W0 s0 q full bytes (.slice A m ca) pre W) (fun _ _ _ => False) (DueI.own (Nat.le_refl _)) (fun _ _ _ _ _ hs _ _ => hs)
    ⟨⟨_, hL0.out, World.ownsRow_nil _ _ _ _, trivial⟩, hB0.out, ⟨⟨HQ0.out.2.1.1, HQ0.out.2.2.1.1⟩, ⟨HQ0.out.2.1.2.1, HQ0.out.2.2.1.2.1⟩, by have := HQ0.out.2.1.2.2; rw [HM.out] at this; exact this, HQ0.out.2.2.1.2.2⟩, Only.refl _ _⟩
    (fun x a' W => ∃ Bx, s0 + 4 ≤ Bx ∧ (∃ vr, Boxed W (s0 + 1) 79 vr ∧ ¬ vr.ownBlock = some Bx) ∧ W.heap[Bx]? = some (.cells #[.int .i64 x.at_, .int .i64 x.n, .int .i64 x.time] 78 (0, 0)) ∧ a' = { tmps := #[.pointer (some ⟨q, 0, none⟩), .int .i64 now, .pointer (some ⟨s0, 0, none⟩), undef, .slice none 0 0, .pointer (some ⟨s0 + 1, 0, none⟩), .pointer (some ⟨Bx, 0, none⟩), .pointer (some ⟨q, 0, none⟩), .int .i64 now, .func (.func 72) #[] #[.pointer (some ⟨s0 + 1 + 1, 0, none⟩), .pointer (some ⟨s0 + 1 + 1 + 1, 0, none⟩)], .agg #[.int .i64 x.at_, .int .i64 x.n, .int .i64 x.time], undef, undef, undef, undef, undef, undef, undef, undef, undef, undef, undef, undef, undef, undef, undef, undef, undef, undef, undef, undef, undef, undef, undef, undef], defers := [] })
    ?ax ?assign ?body ?done ?stop
  case ax =>
    rintro x a' ⟨⟩ W W' row ⟨Bx, h1, ⟨vr, h4, h5⟩, h2, h3⟩ hg hr
    refine ⟨Bx, h1, ⟨vr, boxed_own (β := Unit) (s0 + 1) 79 (fun _ => vr) () W W' row h4 hg fun r e => (hr r e).2, h5⟩, (hg.block Bx (Array.getElem?_eq_some_iff.1 h2).1 fun e => ?_).trans h2, h3⟩
    obtain ⟨_, o, ho, hc⟩ := hr Bx e.symm
    rw [h2] at ho
    cases ho
    cases hc
  case assign =>
    rintro l0 pre x W K hI hK
    gi_wp2
    have hsz := hI.2.2.2.size
    exact hK _ _ ((KeepsOthers.alloc _ _).from _) (Only.alloc (Only.refl _ _) _) ((DueI.own (B := W0.heap.size) (Nat.le_refl _)).alloc _ hI) ⟨W.heap.size, by omega, ⟨_, hI.1.choose_spec.1.alloc _, fun e => by have := ownsRow_lt hI.1.choose_spec.2.1 _ e; omega⟩, heap_alloc_new _ _, rfl⟩
  case body =>
    rintro l0 pre x a' W hl0 _ hI ⟨Bx, hBx, ⟨vr2, hvb2, hne⟩, hbx, rfl⟩ hlen
    obtain ⟨⟨vr, hvb, hvr, _⟩, hb2, ⟨⟨a0, a1⟩, ⟨a2, a3⟩, a4, a5⟩, hO⟩ := hI
    obtain rfl : vr2 = vr := by have := (show W.heap[s0 + 1]? = _ from hvb2).symm.trans hvb; simpa using this
    clear hvb2
    obtain ⟨i0, z0, hi0, hz0, hz1, hz2, hz3⟩ := held_info
    have hv1 := hvb.cell
    have hv2 := hvb.frozen
    have hsz := hO.size
    have x0 : W.cell? ⟨Bx, 0, none⟩ = some (.int .i64 x.at_) := by simp [World.cell?, hbx]
    have x1 : W.cell? ⟨Bx, 1, none⟩ = some (.int .i64 x.n) := by simp [World.cell?, hbx]
    have x2 : W.cell? ⟨Bx, 2, none⟩ = some (.int .i64 x.time) := by simp [World.cell?, hbx]
    have HVR := hid hvr
    have HVB := hid hvb
    clear hvr hvb
    gi_wp2_with (gi_at_builtin; refine wpListIn_append_own _ rfl _ _ 79 rfl (s0 + 4) 78 i0 z0 3 24 Tryd.underlying79 hi0 hz0 hz2 hz3 hz1 (by decide) vr2 pre.length (hdList pre) rfl (HVR.out.alloc _) ⟨W.heap.size, 0, none⟩ 1 1 [.int .i64 x.at_, .int .i64 x.n, .int .i64 x.time] rfl rfl (fun j u hj => by rw [Addr.add_lit]; exact (Row.new W _ _).range j u hj) (hd_one x) (by unfold maxLen; omega) (by omega) (by simp; omega) ?_; intro v' w1 hown' hgrow _; obtain ⟨g', cap', rfl⟩ := ownsRow_succ hown'; obtain ⟨hv1', hv2', _, hk2, _⟩ := HVB.out.appended (n₀ := s0 + 1) (by decide) (HVR.out.mono (by omega)) (by omega) (by omega) (hown'.mono (by omega)) hgrow; have hc1 := hv1'.cell; have hf1 := hv1'.frozen)
    refine wpIn_region_any (by kernel_rfl) ?_
    change wpAnyIn _ _ _ _ _ _ _ _ _ (World.drew _)
    have hlt : ∀ g, vr2.ownBlock = some g → s0 + 4 ≤ g ∧ g < W.heap.size := fun g e => (ownsRow_lt HVR.out g e).symm
    have hT : Only (tch (s0 + 1) vr2) W (w1.setCell ⟨s0 + 1, 0, none⟩ (.slice (some ⟨g', 0, none⟩) (pre.length + 1) cap')) := Only.setCell (S := tch (s0 + 1) vr2) (grown_only (Only.alloc (Only.refl _ _) _) hgrow fun g e => .inr e) (.inl (.inl rfl)) _
    have n0 : ¬ tch (s0 + 1) vr2 s0 := by rintro (e | e) <;> first | omega | (have := hlt _ e; omega)
    have nq : ¬ tch (s0 + 1) vr2 q := by rintro (e | e) <;> first | omega | (have := hlt _ e; omega)
    have nb : ¬ tch (s0 + 1) vr2 Bx := by rintro (e | e) <;> first | omega | exact hne e
    have hBl : Bx < W.heap.size := (Array.getElem?_eq_some_iff.1 hbx).1
    refine wpAnyIn_gen (fun W6 => Hid (KeepsFrom W0.heap.size W W6) ∧ Hid (Only (keepS q (s0 + 1) W0.heap.size) W W6) ∧ Hid (Boxed W6 (s0 + 1) 79 (.slice (some ⟨g', 0, none⟩) (pre.length + 1) cap')) ∧ Hid (W6.ownsRow (s0 + 4) 78 3 (.slice (some ⟨g', 0, none⟩) (pre.length + 1) cap') (pre ++ [x]).length (hdList (pre ++ [x]))) ∧ Hid (Boxed W6 s0 63 (.pointer (some ⟨q, 0, none⟩))) ∧
      Hid (((W6.cell? ⟨q, 0, none⟩ = some (.int .i64 full) ∧ W6.frozen? ⟨q, 0, none⟩ = false) ∧ (W6.cell? ⟨q, 1, none⟩ = some (.int .i64 (bytesF bytes pre)) ∧ W6.frozen? ⟨q, 1, none⟩ = false) ∧ (W6.cell? ⟨q, 2, none⟩ = some (.slice A m ca) ∧ W6.frozen? ⟨q, 2, none⟩ = false))) ∧ Hid (W6.cell? ⟨Bx, 1, none⟩ = some (.int .i64 x.n)))
      ⟨hid ⟨hk2.size, fun k o _ => hk2.same k o⟩, hid (Only.drew (Only.setCell (S := keepS q (s0 + 1) W0.heap.size) (grown_only (Only.alloc (Only.refl _ _) _) hgrow fun g e => .inr (.inr (by have := hlt g e; omega))) (.inl (.inr (.inl rfl))) _)), hid hv2', hid ?r, hid ((hT.block s0 (by omega) n0).trans hb2), hid ⟨⟨(hT.cells q 0 (by omega) nq).trans a0, (hT.frozens q 0 (by omega) nq).trans a1⟩, ⟨(hT.cells q 1 (by omega) nq).trans a2, (hT.frozens q 1 (by omega) nq).trans a3⟩, (hT.cells q 2 (by omega) nq).trans a4, (hT.frozens q 2 (by omega) nq).trans a5⟩, hid ((hT.cells Bx 1 hBl nb).trans x1)⟩ ?_
    case r =>
      rw [List.length_append, hdList_append, hdList_one]
      exact (hown'.kept (grownBy_setCell' w1 (s0 + 1) _) (.inr (hv1'.not_row (by decide) hown').symm)).drew
    clear hT n0 nq nb hk2 hv1' hv2' hc1 hf1 hgrow hown' hne hbx x0 x1 x2 hb2 a0 a1 a2 a3 a4 a5 HVR HVB hv1 hv2
    rintro W6 ⟨g1, g2, g3, g4, g5, g6, g7⟩
    have y0 := g5.out.cell
    have y1 := g6.out.2.1.1
    have y2 := g6.out.2.1.2
    have y3 := g7.out
    have hfin : KeepsFrom W0.heap.size W (W6.setCell ⟨q, 1, none⟩ (.int .i64 (IntKind.i64.wrap (bytesF bytes pre - x.n)))) ∧ Only (keepS q (s0 + 1) W0.heap.size) W (W6.setCell ⟨q, 1, none⟩ (.int .i64 (IntKind.i64.wrap (bytesF bytes pre - x.n)))) ∧ DueI W0 s0 q full bytes (.slice A m ca) (pre ++ [x]) (W6.setCell ⟨q, 1, none⟩ (.int .i64 (IntKind.i64.wrap (bytesF bytes pre - x.n)))) := by
      have hs : ∀ u, Only (fun i => i = q) W6 (W6.setCell ⟨q, 1, none⟩ u) := fun u => Only.setCell (S := fun i => i = q) (Only.refl _ _) (.inl rfl) u
      have hgg : s0 + 4 ≤ g' := (ownsRow_lt g4.out g' rfl).2
      have h60 := g6.out.1
      have h62 := g6.out.2.2
      refine ⟨g1.out.trans ((KeepsOthers.setCell _ _ _).from _), g2.out.trans' (Only.setCell (S := keepS q (s0 + 1) W0.heap.size) (Only.refl _ _) (.inl (.inl rfl)) _), ⟨_, ((hs _).block (s0 + 1) g3.out.lt (by omega)).trans g3.out, g4.out.kept (row := some q) ⟨(hs _).os, (hs _).tape, (hs _).output, (hs _).size, fun k hk hn => (hs _).block k hk fun e => hn (by rw [e])⟩ (.inr (by simp [Value.ownBlock]; omega)), trivial⟩, ((hs _).block s0 g5.out.lt (by omega)).trans g5.out, ⟨⟨by simp [go_sem, h60.1], by simp [go_sem, h60.2]⟩, ⟨by rw [bytesF_snoc]; simp [go_sem, y1], by simp [go_sem, y2]⟩, by simp [go_sem, h62.1], by simp [go_sem, h62.2]⟩, ?_⟩
      exact (hO.trans' g2.out).trans' (Only.setCell (S := keepS q (s0 + 1) W0.heap.size) (Only.refl _ _) (.inl (.inl rfl)) _)
    refine wpAnyIn_ready (rs := [0, 4]) (by kernel_rfl) (by simp) ?_
    refine AllReadyIn.cons rfl (fun K hK => ?_) ?_
    · go_simp
      refine hK _ _ ?_
      clear hK K
      refine wpAnyIn_ready (rs := [1, 4]) (by kernel_rfl) (by simp) ?_
      refine AllReadyIn.cons rfl (fun K hK => ?_) ?_
      · go_simp
        refine hK _ _ ?_
        clear hK K
        refine wpAnyIn_ready (rs := [2, 4]) (by kernel_rfl) (by simp) ?_
        refine AllReadyIn.cons rfl (fun K hK => ?_) ?_
        · go_simp
          refine hK _ _ ?_
          clear hK K
          refine wpAnyIn_ready (rs := [3, 4]) (by kernel_rfl) (by simp) ?_
          refine AllReadyIn.cons rfl (fun K hK => ?_) ?_
          · go_simp
            refine hK _ _ ?_
            clear hK K
            refine wpAnyIn_ready (rs := [4]) (by kernel_rfl) (by simp) ?_
            refine AllReadyIn.cons rfl (fun K hK => ?_) ?_
            · go_simp
              refine hK _ _ ?_
              clear hK K
              refine wpAnyIn_ready (rs := [5]) (by kernel_rfl) (by simp) ?_
              refine AllReadyIn.cons rfl (fun K hK => ?_) ?_
              · go_simp
                refine hK _ _ ?_
                clear hK K
                refine wpAnyIn_ready (rs := [6]) (by kernel_rfl) (by simp) ?_
                refine AllReadyIn.cons rfl (fun K hK => ?_) ?_
                · go_simp
                  refine hK _ _ ?_
                  clear hK K
                  refine wpAnyIn_ready (rs := [7]) (by kernel_rfl) (by simp) ?_
                  refine AllReadyIn.cons rfl (fun K hK => ?_) ?_
                  · go_simp
                    refine hK _ _ ?_
                    clear hK K
                    refine wpAnyIn_ready (rs := [8]) (by kernel_rfl) (by simp) ?_
                    refine AllReadyIn.cons rfl (fun K hK => ?_) ?_
                    · go_simp
                      refine hK _ _ ?_
                      clear hK K
                      refine wpAnyIn_ready (rs := [9]) (by kernel_rfl) (by simp) ?_
                      refine AllReadyIn.cons rfl (fun K hK => ?_) ?_
                      · go_simp
                        refine hK _ _ ?_
                        clear hK K
                        refine wpAnyIn_done (by kernel_rfl) ?_ _
                        gi_wp2
                        exact hfin
                      exact AllReadyIn.nil
                    exact AllReadyIn.nil
                  exact AllReadyIn.nil
                exact AllReadyIn.nil
              exact AllReadyIn.nil
            exact AllReadyIn.nil
          refine AllReadyIn.cons rfl (fun K hK => ?_) ?_
          · go_simp
            refine hK _ _ ?_
            clear hK K
            refine wpAnyIn_ready (rs := [3, 5]) (by kernel_rfl) (by simp) ?_
            refine AllReadyIn.cons rfl (fun K hK => ?_) ?_
            · go_simp
              refine hK _ _ ?_
              clear hK K
              refine wpAnyIn_ready (rs := [5]) (by kernel_rfl) (by simp) ?_
              refine AllReadyIn.cons rfl (fun K hK => ?_) ?_
              · go_simp
                refine hK _ _ ?_
                clear hK K
                refine wpAnyIn_ready (rs := [6]) (by kernel_rfl) (by simp) ?_
                refine AllReadyIn.cons rfl (fun K hK => ?_) ?_
                · go_simp
                  refine hK _ _ ?_
                  clear hK K
                  refine wpAnyIn_ready (rs := [7]) (by kernel_rfl) (by simp) ?_
                  refine AllReadyIn.cons rfl (fun K hK => ?_) ?_
                  · go_simp
                    refine hK _ _ ?_
                    clear hK K
                    refine wpAnyIn_ready (rs := [8]) (by kernel_rfl) (by simp) ?_
                    refine AllReadyIn.cons rfl (fun K hK => ?_) ?_
                    · go_simp
                      refine hK _ _ ?_
                      clear hK K
                      refine wpAnyIn_ready (rs := [9]) (by kernel_rfl) (by simp) ?_
                      refine AllReadyIn.cons rfl (fun K hK => ?_) ?_
                      · go_simp
                        refine hK _ _ ?_
                        clear hK K
                        refine wpAnyIn_done (by kernel_rfl) ?_ _
                        gi_wp2
                        exact hfin
                      exact AllReadyIn.nil
                    exact AllReadyIn.nil
                  exact AllReadyIn.nil
                exact AllReadyIn.nil
              exact AllReadyIn.nil
            refine AllReadyIn.cons rfl (fun K hK => ?_) ?_
            · go_simp
              refine hK _ _ ?_
              clear hK K
              refine wpAnyIn_ready (rs := [3]) (by kernel_rfl) (by simp) ?_
              refine AllReadyIn.cons rfl (fun K hK => ?_) ?_
              · go_simp
                refine hK _ _ ?_
                clear hK K
                refine wpAnyIn_ready (rs := [6]) (by kernel_rfl) (by simp) ?_
                refine AllReadyIn.cons rfl (fun K hK => ?_) ?_
                · go_simp
                  refine hK _ _ ?_
                  clear hK K
                  refine wpAnyIn_ready (rs := [7]) (by kernel_rfl) (by simp) ?_
                  refine AllReadyIn.cons rfl (fun K hK => ?_) ?_
                  · go_simp
                    refine hK _ _ ?_
                    clear hK K
                    refine wpAnyIn_ready (rs := [8]) (by kernel_rfl) (by simp) ?_
                    refine AllReadyIn.cons rfl (fun K hK => ?_) ?_
                    · go_simp
                      refine hK _ _ ?_
                      clear hK K
                      refine wpAnyIn_ready (rs := [9]) (by kernel_rfl) (by simp) ?_
                      refine AllReadyIn.cons rfl (fun K hK => ?_) ?_
                      · go_simp
                        refine hK _ _ ?_
                        clear hK K
                        refine wpAnyIn_done (by kernel_rfl) ?_ _
                        gi_wp2
                        exact hfin
                      exact AllReadyIn.nil
                    exact AllReadyIn.nil
                  exact AllReadyIn.nil
                exact AllReadyIn.nil
              exact AllReadyIn.nil
            exact AllReadyIn.nil
          exact AllReadyIn.nil
        refine AllReadyIn.cons rfl (fun K hK => ?_) ?_
        · go_simp
          refine hK _ _ ?_
          clear hK K
          refine wpAnyIn_ready (rs := [2, 5]) (by kernel_rfl) (by simp) ?_
          refine AllReadyIn.cons rfl (fun K hK => ?_) ?_
          · go_simp
            refine hK _ _ ?_
            clear hK K
            refine wpAnyIn_ready (rs := [3, 5]) (by kernel_rfl) (by simp) ?_
            refine AllReadyIn.cons rfl (fun K hK => ?_) ?_
            · go_simp
              refine hK _ _ ?_
              clear hK K
              refine wpAnyIn_ready (rs := [5]) (by kernel_rfl) (by simp) ?_
              refine AllReadyIn.cons rfl (fun K hK => ?_) ?_
              · go_simp
                refine hK _ _ ?_
                clear hK K
                refine wpAnyIn_ready (rs := [6]) (by kernel_rfl) (by simp) ?_
                refine AllReadyIn.cons rfl (fun K hK => ?_) ?_
                · go_simp
                  refine hK _ _ ?_
                  clear hK K
                  refine wpAnyIn_ready (rs := [7]) (by kernel_rfl) (by simp) ?_
                  refine AllReadyIn.cons rfl (fun K hK => ?_) ?_
                  · go_simp
                    refine hK _ _ ?_
                    clear hK K
                    refine wpAnyIn_ready (rs := [8]) (by kernel_rfl) (by simp) ?_
                    refine AllReadyIn.cons rfl (fun K hK => ?_) ?_
                    · go_simp
                      refine hK _ _ ?_
                      clear hK K
                      refine wpAnyIn_ready (rs := [9]) (by kernel_rfl) (by simp) ?_
                      refine AllReadyIn.cons rfl (fun K hK => ?_) ?_
                      · go_simp
                        refine hK _ _ ?_
                        clear hK K
                        refine wpAnyIn_done (by kernel_rfl) ?_ _
                        gi_wp2
                        exact hfin
                      exact AllReadyIn.nil
                    exact AllReadyIn.nil
                  exact AllReadyIn.nil
                exact AllReadyIn.nil
              exact AllReadyIn.nil
            refine AllReadyIn.cons rfl (fun K hK => ?_) ?_
            · go_simp
              refine hK _ _ ?_
              clear hK K
              refine wpAnyIn_ready (rs := [3]) (by kernel_rfl) (by simp) ?_
              refine AllReadyIn.cons rfl (fun K hK => ?_) ?_
              · go_simp
                refine hK _ _ ?_
                clear hK K
                refine wpAnyIn_ready (rs := [6]) (by kernel_rfl) (by simp) ?_
                refine AllReadyIn.cons rfl (fun K hK => ?_) ?_
                · go_simp
                  refine hK _ _ ?_
                  clear hK K
                  refine wpAnyIn_ready (rs := [7]) (by kernel_rfl) (by simp) ?_
                  refine AllReadyIn.cons rfl (fun K hK => ?_) ?_
                  · go_simp
                    refine hK _ _ ?_
                    clear hK K
                    refine wpAnyIn_ready (rs := [8]) (by kernel_rfl) (by simp) ?_
                    refine AllReadyIn.cons rfl (fun K hK => ?_) ?_
                    · go_simp
                      refine hK _ _ ?_
                      clear hK K
                      refine wpAnyIn_ready (rs := [9]) (by kernel_rfl) (by simp) ?_
                      refine AllReadyIn.cons rfl (fun K hK => ?_) ?_
                      · go_simp
                        refine hK _ _ ?_
                        clear hK K
                        refine wpAnyIn_done (by kernel_rfl) ?_ _
                        gi_wp2
                        exact hfin
                      exact AllReadyIn.nil
                    exact AllReadyIn.nil
                  exact AllReadyIn.nil
                exact AllReadyIn.nil
              exact AllReadyIn.nil
            exact AllReadyIn.nil
          refine AllReadyIn.cons rfl (fun K hK => ?_) ?_
          · go_simp
            refine hK _ _ ?_
            clear hK K
            refine wpAnyIn_ready (rs := [2]) (by kernel_rfl) (by simp) ?_
            refine AllReadyIn.cons rfl (fun K hK => ?_) ?_
            · go_simp
              refine hK _ _ ?_
              clear hK K
              refine wpAnyIn_ready (rs := [3]) (by kernel_rfl) (by simp) ?_
              refine AllReadyIn.cons rfl (fun K hK => ?_) ?_
              · go_simp
                refine hK _ _ ?_
                clear hK K
                refine wpAnyIn_ready (rs := [6]) (by kernel_rfl) (by simp) ?_
                refine AllReadyIn.cons rfl (fun K hK => ?_) ?_
                · go_simp
                  refine hK _ _ ?_
                  clear hK K
                  refine wpAnyIn_ready (rs := [7]) (by kernel_rfl) (by simp) ?_
                  refine AllReadyIn.cons rfl (fun K hK => ?_) ?_
                  · go_simp
                    refine hK _ _ ?_
                    clear hK K
                    refine wpAnyIn_ready (rs := [8]) (by kernel_rfl) (by simp) ?_
                    refine AllReadyIn.cons rfl (fun K hK => ?_) ?_
                    · go_simp
                      refine hK _ _ ?_
                      clear hK K
                      refine wpAnyIn_ready (rs := [9]) (by kernel_rfl) (by simp) ?_
                      refine AllReadyIn.cons rfl (fun K hK => ?_) ?_
                      · go_simp
                        refine hK _ _ ?_
                        clear hK K
                        refine wpAnyIn_done (by kernel_rfl) ?_ _
                        gi_wp2
                        exact hfin
                      exact AllReadyIn.nil
                    exact AllReadyIn.nil
                  exact AllReadyIn.nil
                exact AllReadyIn.nil
              exact AllReadyIn.nil
            exact AllReadyIn.nil
          exact AllReadyIn.nil
        exact AllReadyIn.nil
      refine AllReadyIn.cons rfl (fun K hK => ?_) ?_
      · go_simp
        refine hK _ _ ?_
        clear hK K
        refine wpAnyIn_ready (rs := [1, 5]) (by kernel_rfl) (by simp) ?_
        refine AllReadyIn.cons rfl (fun K hK => ?_) ?_
        · go_simp
          refine hK _ _ ?_
          clear hK K
          refine wpAnyIn_ready (rs := [2, 5]) (by kernel_rfl) (by simp) ?_
          refine AllReadyIn.cons rfl (fun K hK => ?_) ?_
          · go_simp
            refine hK _ _ ?_
            clear hK K
            refine wpAnyIn_ready (rs := [3, 5]) (by kernel_rfl) (by simp) ?_
            refine AllReadyIn.cons rfl (fun K hK => ?_) ?_
            · go_simp
              refine hK _ _ ?_
              clear hK K
              refine wpAnyIn_ready (rs := [5]) (by kernel_rfl) (by simp) ?_
              refine AllReadyIn.cons rfl (fun K hK => ?_) ?_
              · go_simp
                refine hK _ _ ?_
                clear hK K
                refine wpAnyIn_ready (rs := [6]) (by kernel_rfl) (by simp) ?_
                refine AllReadyIn.cons rfl (fun K hK => ?_) ?_
                · go_simp
                  refine hK _ _ ?_
                  clear hK K
                  refine wpAnyIn_ready (rs := [7]) (by kernel_rfl) (by simp) ?_
                  refine AllReadyIn.cons rfl (fun K hK => ?_) ?_
                  · go_simp
                    refine hK _ _ ?_
                    clear hK K
                    refine wpAnyIn_ready (rs := [8]) (by kernel_rfl) (by simp) ?_
                    refine AllReadyIn.cons rfl (fun K hK => ?_) ?_
                    · go_simp
                      refine hK _ _ ?_
                      clear hK K
                      refine wpAnyIn_ready (rs := [9]) (by kernel_rfl) (by simp) ?_
                      refine AllReadyIn.cons rfl (fun K hK => ?_) ?_
                      · go_simp
                        refine hK _ _ ?_
                        clear hK K
                        refine wpAnyIn_done (by kernel_rfl) ?_ _
                        gi_wp2
                        exact hfin
                      exact AllReadyIn.nil
                    exact AllReadyIn.nil
                  exact AllReadyIn.nil
                exact AllReadyIn.nil
              exact AllReadyIn.nil
            refine AllReadyIn.cons rfl (fun K hK => ?_) ?_
            · go_simp
              refine hK _ _ ?_
              clear hK K
              refine wpAnyIn_ready (rs := [3]) (by kernel_rfl) (by simp) ?_
              refine AllReadyIn.cons rfl (fun K hK => ?_) ?_
              · go_simp
                refine hK _ _ ?_
                clear hK K
                refine wpAnyIn_ready (rs := [6]) (by kernel_rfl) (by simp) ?_
                refine AllReadyIn.cons rfl (fun K hK => ?_) ?_
                · go_simp
                  refine hK _ _ ?_
                  clear hK K
                  refine wpAnyIn_ready (rs := [7]) (by kernel_rfl) (by simp) ?_
                  refine AllReadyIn.cons rfl (fun K hK => ?_) ?_
                  · go_simp
                    refine hK _ _ ?_
                    clear hK K
                    refine wpAnyIn_ready (rs := [8]) (by kernel_rfl) (by simp) ?_
                    refine AllReadyIn.cons rfl (fun K hK => ?_) ?_
                    · go_simp
                      refine hK _ _ ?_
                      clear hK K
                      refine wpAnyIn_ready (rs := [9]) (by kernel_rfl) (by simp) ?_
                      refine AllReadyIn.cons rfl (fun K hK => ?_) ?_
                      · go_simp
                        refine hK _ _ ?_
                        clear hK K
                        refine wpAnyIn_done (by kernel_rfl) ?_ _
                        gi_wp2
                        exact hfin
                      exact AllReadyIn.nil
                    exact AllReadyIn.nil
                  exact AllReadyIn.nil
                exact AllReadyIn.nil
              exact AllReadyIn.nil
            exact AllReadyIn.nil
          refine AllReadyIn.cons rfl (fun K hK => ?_) ?_
          · go_simp
            refine hK _ _ ?_
            clear hK K
            refine wpAnyIn_ready (rs := [2]) (by kernel_rfl) (by simp) ?_
            refine AllReadyIn.cons rfl (fun K hK => ?_) ?_
            · go_simp
              refine hK _ _ ?_
              clear hK K
              refine wpAnyIn_ready (rs := [3]) (by kernel_rfl) (by simp) ?_
              refine AllReadyIn.cons rfl (fun K hK => ?_) ?_
              · go_simp
                refine hK _ _ ?_
                clear hK K
                refine wpAnyIn_ready (rs := [6]) (by kernel_rfl) (by simp) ?_
                refine AllReadyIn.cons rfl (fun K hK => ?_) ?_
                · go_simp
                  refine hK _ _ ?_
                  clear hK K
                  refine wpAnyIn_ready (rs := [7]) (by kernel_rfl) (by simp) ?_
                  refine AllReadyIn.cons rfl (fun K hK => ?_) ?_
                  · go_simp
                    refine hK _ _ ?_
                    clear hK K
                    refine wpAnyIn_ready (rs := [8]) (by kernel_rfl) (by simp) ?_
                    refine AllReadyIn.cons rfl (fun K hK => ?_) ?_
                    · go_simp
                      refine hK _ _ ?_
                      clear hK K
                      refine wpAnyIn_ready (rs := [9]) (by kernel_rfl) (by simp) ?_
                      refine AllReadyIn.cons rfl (fun K hK => ?_) ?_
                      · go_simp
                        refine hK _ _ ?_
                        clear hK K
                        refine wpAnyIn_done (by kernel_rfl) ?_ _
                        gi_wp2
                        exact hfin
                      exact AllReadyIn.nil
                    exact AllReadyIn.nil
                  exact AllReadyIn.nil
                exact AllReadyIn.nil
              exact AllReadyIn.nil
            exact AllReadyIn.nil
          exact AllReadyIn.nil
        refine AllReadyIn.cons rfl (fun K hK => ?_) ?_
        · go_simp
          refine hK _ _ ?_
          clear hK K
          refine wpAnyIn_ready (rs := [1]) (by kernel_rfl) (by simp) ?_
          refine AllReadyIn.cons rfl (fun K hK => ?_) ?_
          · go_simp
            refine hK _ _ ?_
            clear hK K
            refine wpAnyIn_ready (rs := [2]) (by kernel_rfl) (by simp) ?_
            refine AllReadyIn.cons rfl (fun K hK => ?_) ?_
            · go_simp
              refine hK _ _ ?_
              clear hK K
              refine wpAnyIn_ready (rs := [3]) (by kernel_rfl) (by simp) ?_
              refine AllReadyIn.cons rfl (fun K hK => ?_) ?_
              · go_simp
                refine hK _ _ ?_
                clear hK K
                refine wpAnyIn_ready (rs := [6]) (by kernel_rfl) (by simp) ?_
                refine AllReadyIn.cons rfl (fun K hK => ?_) ?_
                · go_simp
                  refine hK _ _ ?_
                  clear hK K
                  refine wpAnyIn_ready (rs := [7]) (by kernel_rfl) (by simp) ?_
                  refine AllReadyIn.cons rfl (fun K hK => ?_) ?_
                  · go_simp
                    refine hK _ _ ?_
                    clear hK K
                    refine wpAnyIn_ready (rs := [8]) (by kernel_rfl) (by simp) ?_
                    refine AllReadyIn.cons rfl (fun K hK => ?_) ?_
                    · go_simp
                      refine hK _ _ ?_
                      clear hK K
                      refine wpAnyIn_ready (rs := [9]) (by kernel_rfl) (by simp) ?_
                      refine AllReadyIn.cons rfl (fun K hK => ?_) ?_
                      · go_simp
                        refine hK _ _ ?_
                        clear hK K
                        refine wpAnyIn_done (by kernel_rfl) ?_ _
                        gi_wp2
                        exact hfin
                      exact AllReadyIn.nil
                    exact AllReadyIn.nil
                  exact AllReadyIn.nil
                exact AllReadyIn.nil
              exact AllReadyIn.nil
            exact AllReadyIn.nil
          exact AllReadyIn.nil
        exact AllReadyIn.nil
      exact AllReadyIn.nil
    refine AllReadyIn.cons rfl (fun K hK => ?_) ?_
    · go_simp
      refine hK _ _ ?_
      clear hK K
      refine wpAnyIn_ready (rs := [0, 5]) (by kernel_rfl) (by simp) ?_
      refine AllReadyIn.cons rfl (fun K hK => ?_) ?_
      · go_simp
        refine hK _ _ ?_
        clear hK K
        refine wpAnyIn_ready (rs := [1, 5]) (by kernel_rfl) (by simp) ?_
        refine AllReadyIn.cons rfl (fun K hK => ?_) ?_
        · go_simp
          refine hK _ _ ?_
          clear hK K
          refine wpAnyIn_ready (rs := [2, 5]) (by kernel_rfl) (by simp) ?_
          refine AllReadyIn.cons rfl (fun K hK => ?_) ?_
          · go_simp
            refine hK _ _ ?_
            clear hK K
            refine wpAnyIn_ready (rs := [3, 5]) (by kernel_rfl) (by simp) ?_
            refine AllReadyIn.cons rfl (fun K hK => ?_) ?_
            · go_simp
              refine hK _ _ ?_
              clear hK K
              refine wpAnyIn_ready (rs := [5]) (by kernel_rfl) (by simp) ?_
              refine AllReadyIn.cons rfl (fun K hK => ?_) ?_
              · go_simp
                refine hK _ _ ?_
                clear hK K
                refine wpAnyIn_ready (rs := [6]) (by kernel_rfl) (by simp) ?_
                refine AllReadyIn.cons rfl (fun K hK => ?_) ?_
                · go_simp
                  refine hK _ _ ?_
                  clear hK K
                  refine wpAnyIn_ready (rs := [7]) (by kernel_rfl) (by simp) ?_
                  refine AllReadyIn.cons rfl (fun K hK => ?_) ?_
                  · go_simp
                    refine hK _ _ ?_
                    clear hK K
                    refine wpAnyIn_ready (rs := [8]) (by kernel_rfl) (by simp) ?_
                    refine AllReadyIn.cons rfl (fun K hK => ?_) ?_
                    · go_simp
                      refine hK _ _ ?_
                      clear hK K
                      refine wpAnyIn_ready (rs := [9]) (by kernel_rfl) (by simp) ?_
                      refine AllReadyIn.cons rfl (fun K hK => ?_) ?_
                      · go_simp
                        refine hK _ _ ?_
                        clear hK K
                        refine wpAnyIn_done (by kernel_rfl) ?_ _
                        gi_wp2
                        exact hfin
                      exact AllReadyIn.nil
                    exact AllReadyIn.nil
                  exact AllReadyIn.nil
                exact AllReadyIn.nil
              exact AllReadyIn.nil
            refine AllReadyIn.cons rfl (fun K hK => ?_) ?_
            · go_simp
              refine hK _ _ ?_
              clear hK K
              refine wpAnyIn_ready (rs := [3]) (by kernel_rfl) (by simp) ?_
              refine AllReadyIn.cons rfl (fun K hK => ?_) ?_
              · go_simp
                refine hK _ _ ?_
                clear hK K
                refine wpAnyIn_ready (rs := [6]) (by kernel_rfl) (by simp) ?_
                refine AllReadyIn.cons rfl (fun K hK => ?_) ?_
                · go_simp
                  refine hK _ _ ?_
                  clear hK K
                  refine wpAnyIn_ready (rs := [7]) (by kernel_rfl) (by simp) ?_
                  refine AllReadyIn.cons rfl (fun K hK => ?_) ?_
                  · go_simp
                    refine hK _ _ ?_
                    clear hK K
                    refine wpAnyIn_ready (rs := [8]) (by kernel_rfl) (by simp) ?_
                    refine AllReadyIn.cons rfl (fun K hK => ?_) ?_
                    · go_simp
                      refine hK _ _ ?_
                      clear hK K
                      refine wpAnyIn_ready (rs := [9]) (by kernel_rfl) (by simp) ?_
                      refine AllReadyIn.cons rfl (fun K hK => ?_) ?_
                      · go_simp
                        refine hK _ _ ?_
                        clear hK K
                        refine wpAnyIn_done (by kernel_rfl) ?_ _
                        gi_wp2
                        exact hfin
                      exact AllReadyIn.nil
                    exact AllReadyIn.nil
                  exact AllReadyIn.nil
                exact AllReadyIn.nil
              exact AllReadyIn.nil
            exact AllReadyIn.nil
          refine AllReadyIn.cons rfl (fun K hK => ?_) ?_
          · go_simp
            refine hK _ _ ?_
            clear hK K
            refine wpAnyIn_ready (rs := [2]) (by kernel_rfl) (by simp) ?_
            refine AllReadyIn.cons rfl (fun K hK => ?_) ?_
            · go_simp
              refine hK _ _ ?_
              clear hK K
              refine wpAnyIn_ready (rs := [3]) (by kernel_rfl) (by simp) ?_
              refine AllReadyIn.cons rfl (fun K hK => ?_) ?_
              · go_simp
                refine hK _ _ ?_
                clear hK K
                refine wpAnyIn_ready (rs := [6]) (by kernel_rfl) (by simp) ?_
                refine AllReadyIn.cons rfl (fun K hK => ?_) ?_
                · go_simp
                  refine hK _ _ ?_
                  clear hK K
                  refine wpAnyIn_ready (rs := [7]) (by kernel_rfl) (by simp) ?_
                  refine AllReadyIn.cons rfl (fun K hK => ?_) ?_
                  · go_simp
                    refine hK _ _ ?_
                    clear hK K
                    refine wpAnyIn_ready (rs := [8]) (by kernel_rfl) (by simp) ?_
                    refine AllReadyIn.cons rfl (fun K hK => ?_) ?_
                    · go_simp
                      refine hK _ _ ?_
                      clear hK K
                      refine wpAnyIn_ready (rs := [9]) (by kernel_rfl) (by simp) ?_
                      refine AllReadyIn.cons rfl (fun K hK => ?_) ?_
                      · go_simp
                        refine hK _ _ ?_
                        clear hK K
                        refine wpAnyIn_done (by kernel_rfl) ?_ _
                        gi_wp2
                        exact hfin
                      exact AllReadyIn.nil
                    exact AllReadyIn.nil
                  exact AllReadyIn.nil
                exact AllReadyIn.nil
              exact AllReadyIn.nil
            exact AllReadyIn.nil
          exact AllReadyIn.nil
        refine AllReadyIn.cons rfl (fun K hK => ?_) ?_
        · go_simp
          refine hK _ _ ?_
          clear hK K
          refine wpAnyIn_ready (rs := [1]) (by kernel_rfl) (by simp) ?_
          refine AllReadyIn.cons rfl (fun K hK => ?_) ?_
          · go_simp
            refine hK _ _ ?_
            clear hK K
            refine wpAnyIn_ready (rs := [2]) (by kernel_rfl) (by simp) ?_
            refine AllReadyIn.cons rfl (fun K hK => ?_) ?_
            · go_simp
              refine hK _ _ ?_
              clear hK K
              refine wpAnyIn_ready (rs := [3]) (by kernel_rfl) (by simp) ?_
              refine AllReadyIn.cons rfl (fun K hK => ?_) ?_
              · go_simp
                refine hK _ _ ?_
                clear hK K
                refine wpAnyIn_ready (rs := [6]) (by kernel_rfl) (by simp) ?_
                refine AllReadyIn.cons rfl (fun K hK => ?_) ?_
                · go_simp
                  refine hK _ _ ?_
                  clear hK K
                  refine wpAnyIn_ready (rs := [7]) (by kernel_rfl) (by simp) ?_
                  refine AllReadyIn.cons rfl (fun K hK => ?_) ?_
                  · go_simp
                    refine hK _ _ ?_
                    clear hK K
                    refine wpAnyIn_ready (rs := [8]) (by kernel_rfl) (by simp) ?_
                    refine AllReadyIn.cons rfl (fun K hK => ?_) ?_
                    · go_simp
                      refine hK _ _ ?_
                      clear hK K
                      refine wpAnyIn_ready (rs := [9]) (by kernel_rfl) (by simp) ?_
                      refine AllReadyIn.cons rfl (fun K hK => ?_) ?_
                      · go_simp
                        refine hK _ _ ?_
                        clear hK K
                        refine wpAnyIn_done (by kernel_rfl) ?_ _
                        gi_wp2
                        exact hfin
                      exact AllReadyIn.nil
                    exact AllReadyIn.nil
                  exact AllReadyIn.nil
                exact AllReadyIn.nil
              exact AllReadyIn.nil
            exact AllReadyIn.nil
          exact AllReadyIn.nil
        exact AllReadyIn.nil
      refine AllReadyIn.cons rfl (fun K hK => ?_) ?_
      · go_simp
        refine hK _ _ ?_
        clear hK K
        refine wpAnyIn_ready (rs := [0]) (by kernel_rfl) (by simp) ?_
        refine AllReadyIn.cons rfl (fun K hK => ?_) ?_
        · go_simp
          refine hK _ _ ?_
          clear hK K
          refine wpAnyIn_ready (rs := [1]) (by kernel_rfl) (by simp) ?_
          refine AllReadyIn.cons rfl (fun K hK => ?_) ?_
          · go_simp
            refine hK _ _ ?_
            clear hK K
            refine wpAnyIn_ready (rs := [2]) (by kernel_rfl) (by simp) ?_
            refine AllReadyIn.cons rfl (fun K hK => ?_) ?_
            · go_simp
              refine hK _ _ ?_
              clear hK K
              refine wpAnyIn_ready (rs := [3]) (by kernel_rfl) (by simp) ?_
              refine AllReadyIn.cons rfl (fun K hK => ?_) ?_
              · go_simp
                refine hK _ _ ?_
                clear hK K
                refine wpAnyIn_ready (rs := [6]) (by kernel_rfl) (by simp) ?_
                refine AllReadyIn.cons rfl (fun K hK => ?_) ?_
                · go_simp
                  refine hK _ _ ?_
                  clear hK K
                  refine wpAnyIn_ready (rs := [7]) (by kernel_rfl) (by simp) ?_
                  refine AllReadyIn.cons rfl (fun K hK => ?_) ?_
                  · go_simp
                    refine hK _ _ ?_
                    clear hK K
                    refine wpAnyIn_ready (rs := [8]) (by kernel_rfl) (by simp) ?_
                    refine AllReadyIn.cons rfl (fun K hK => ?_) ?_
                    · go_simp
                      refine hK _ _ ?_
                      clear hK K
                      refine wpAnyIn_ready (rs := [9]) (by kernel_rfl) (by simp) ?_
                      refine AllReadyIn.cons rfl (fun K hK => ?_) ?_
                      · go_simp
                        refine hK _ _ ?_
                        clear hK K
                        refine wpAnyIn_done (by kernel_rfl) ?_ _
                        gi_wp2
                        exact hfin
                      exact AllReadyIn.nil
                    exact AllReadyIn.nil
                  exact AllReadyIn.nil
                exact AllReadyIn.nil
              exact AllReadyIn.nil
            exact AllReadyIn.nil
          exact AllReadyIn.nil
        exact AllReadyIn.nil
      exact AllReadyIn.nil
    exact AllReadyIn.nil
  case done =>
    rintro Dd ys W hD rfl ⟨⟨vr, hvb, hvr, _⟩, hb2, ⟨⟨a0, a1⟩, ⟨a2, a3⟩, a4, a5⟩, hO⟩ hK
    have hsz := hO.size
    gi_wp2
    refine wpIn_wide.2 ?_
    obtain ⟨Av, cv, rfl, hcv, _⟩ := (ownsAt_of hvr).shape
    have HTW := hid (List.takeWhile_prefix (dueB now) (l := l)).length_le
    generalize hTT : l.takeWhile (dueB now) = tk at *
    obtain ⟨T, hT⟩ : ∃ T, tk.length = T := ⟨_, rfl⟩
    have hTm : T ≤ m := by rw [← hT, ← HM.out]; exact HTW.out
    have HVR := hid hvr
    rw [hT] at HVR hvb hcv
    have HTk := hid hT
    have HTT := hid hTT
    clear hvr hT hTT
    have hT0 : (0 : Int) ≤ (T : Int) := by omega
    have hT1 : (T : Int) ≤ (m : Int) := by omega
    refine wp_region_noPanic ?_
    refine wp_region_turn (q := q) (.rd 0 (.rd 1 (.rd 2 (.rd 3 (.rd 5 (.rd 6 (.ac 4 (.rd 7 (.rd 8 (.rd 9 (.ac 10 .done))))))))))) (by kernel_rfl) (by kernel_rfl) (fun _ _ d _ _ h => by cases d <;> exact h) (by simp only [Ord.map, nthOp, List.append]; rfl) ?_
    intro d2
    have hEd := Ext.grow (Ext.refl W) d2
    have y0 := (hEd.block s0 hb2.lt).trans hb2
    have y1 := (hEd.block (s0 + 1) hvb.lt).trans hvb
    have y2 := (hEd.cells q 2 (by omega)).trans a4
    have y3 := (hEd.frozens q 2 (by omega)).trans a5
    have y4 := hid (And.intro ((hEd.cells q 0 (by omega)).trans a0) ((hEd.frozens q 0 (by omega)).trans a1))
    have y5 := hid (And.intro ((hEd.cells q 1 (by omega)).trans a2) ((hEd.frozens q 1 (by omega)).trans a3))
    have hO8 := hid (hO.transExt hEd)
    have hK8 : (Go.Proofs.YtoeiemeffiiidaaDoor.grow W d2).heap[Dd]? = some (.deferred (some [])) := (hEd.block Dd (Array.getElem?_eq_some_iff.1 hK).1).trans hK
    have HVR8 := hid ((HVR.out.kept (row := none) (gives_grown hEd) (Classical.em _)))
    generalize Go.Proofs.YtoeiemeffiiidaaDoor.grow W d2 = W8 at y0 y1 y2 y3 y4 y5 hO8 hK8 HVR8 ⊢
    clear hb2 hvb a0 a1 a2 a3 a4 a5 hK HVR hEd hO
    have z0 : W8.cell? ⟨s0, 0, none⟩ = some (.pointer (some ⟨q, 0, none⟩)) := Boxed.cell y0
    have z1 : W8.cell? ⟨s0 + 1, 0, none⟩ = some (.slice Av T cv) := Boxed.cell y1
    have ne0 : ¬ s0 = q := by omega
    have l0 : s0 < W8.heap.size := Boxed.lt y0
    have l1 : s0 + 1 < W8.heap.size := Boxed.lt y1
    have l2 : q < W8.heap.size := by omega
    have ne1 : ¬ s0 + 1 = q := by omega
    have hO0 := HQ0.out.2.2.2.1
    rw [HM.out] at hO0
    have hnq0 : ∀ g, (Value.slice A m ca).ownBlock = some g → g < s0 ∧ g ≠ q := fun g hg => by
      have h1 := hO0.lt g hg
      have h2 := HQ.out.2.2.2.2.2 g ((own_len _ _ _ _ _).trans hg)
      have h3 := HQ.out.2.2.2.1.lt g ((own_len _ _ _ _ _).trans hg)
      exact ⟨by omega, h2⟩
    by_cases hct : ca = T
    · obtain rfl : m = T := by omega
      repeat' (first | (refine turn_read (by rfl) (fun K hK => ?_); go_big_quiet_op; refine hK _ ?_; clear hK K) | (refine turn_act (by rfl) (fun K hK => ?_); go_wp2_with fail; refine ⟨_, Only.refl _ _, (by first | exact Only.refl _ _ | exact Only.setCell (S := fun i => i = q) (Only.refl _ _) (.inl rfl) _), ?_⟩))
      refine turn_nil ?_
      refine NoPanic.normal ?_
      gi_wp2
      refine ⟨by simp, .inl ⟨_, _, rfl, run_takeDeferred (ds := []) ?hkk, ?fin⟩⟩
      case hkk => exact ((Only.setCell (S := fun i => i = q) (Only.refl (fun i => i = q) W8) (.inl rfl) _).block Dd (Array.getElem?_eq_some_iff.1 hK8).1 (by omega)).trans hK8
      case fin =>
        have hown8 := ownsAt.keep8 (s0 := s0) hO0 hO8.out hnq0 (by omega)
        have hfin := due_last w W0 W8 q base s0 Dd (m - m) m full _ _ (.slice A 0 0) (.slice Av m cv) (l.drop m) tk hE0.out hs0 hq0 hbs hZ hO8.out y4.out y5.out y2 y3 hD hK8 (by rw [List.length_drop, HM.out]) (by rw [Nat.sub_self, List.drop_eq_nil_of_le (by rw [HM.out]; exact Nat.le_refl _)]; exact hown8.shut) (fun g hg => hnq0 g ((own_len _ _ _ _ _).trans hg)) HVR8.out
        exact ⟨_, results_tmp rfl _ _ _, _, _, rfl, by rw [HTT.out, HTk.out]; exact hfin.1, by rw [HTT.out, HTk.out, hs0]; exact hfin.2.1, hfin.2.2, own_len _ _ _ _ _⟩
    · repeat' (first | (refine turn_read (by rfl) (fun K hK => ?_); go_big_quiet_op; refine hK _ ?_; clear hK K) | (refine turn_act (by rfl) (fun K hK => ?_); go_wp2_with fail; refine ⟨_, Only.refl _ _, (by first | exact Only.refl _ _ | exact Only.setCell (S := fun i => i = q) (Only.refl _ _) (.inl rfl) _), ?_⟩))
      refine turn_nil ?_
      refine NoPanic.normal ?_
      gi_wp2
      refine ⟨by simp, .inl ⟨_, _, rfl, run_takeDeferred (ds := []) ?hkk, ?fin⟩⟩
      case hkk => exact ((Only.setCell (S := fun i => i = q) (Only.refl (fun i => i = q) W8) (.inl rfl) _).block Dd (Array.getElem?_eq_some_iff.1 hK8).1 (by omega)).trans hK8
      case fin =>
        have hown8 := ownsAt.keep8 (s0 := s0) hO0 hO8.out hnq0 (by omega)
        have hfin := due_last w W0 W8 q base s0 Dd (m - T) T full _ _ (.slice (A.map fun x => x.add (T * 3)) (m - T) (ca - T)) (.slice Av T cv) (l.drop T) tk hE0.out hs0 hq0 hbs hZ hO8.out y4.out y5.out y2 y3 hD hK8 (by rw [List.length_drop, HM.out]) (hown8.slice hTm) (fun g hg => hnq0 g ((hO0.own_slice _ _ _).symm.trans hg)) HVR8.out
        exact ⟨_, results_tmp rfl _ _ _, _, _, rfl, by rw [HTT.out, HTk.out]; exact hfin.1, by rw [HTT.out, HTk.out, hs0]; exact hfin.2.1, hfin.2.2, (hO0.own_slice _ _ _).trans (own_len _ _ _ _ _)⟩
  case stop =>
    rintro D c pre W _ _ h _
    exact h.elim
end Go.Proofs.YtoeiemeffiiidaaDoor

namespace Go.Proofs.YtoeiemeffiiidaaDoor
set_option maxRecDepth 100000
set_option linter.unusedSimpArgs false
set_option linter.unusedVariables false
open Go.RowKit

def lenV : Value → Nat
  | .slice _ n _ => n
  | _ => 0
end Go.Proofs.YtoeiemeffiiidaaDoor

namespace Go.Proofs.YtoeiemeffiiidaaDoor
set_option maxRecDepth 100000
set_option linter.unusedSimpArgs false
set_option linter.unusedVariables false
open Go.RowKit

theorem lastT_nn {l : List Hd} (h : ∀ x ∈ l, 0 ≤ x.time ∧ x.time ≤ 2199023255552) : 0 ≤ lastT l := by
  rcases hm : l.length with _ | m
  · rw [List.eq_nil_of_length_eq_zero hm]; exact Int.le_refl 0
  · rw [lastT_at hm]; exact (h _ (List.getElem_mem _)).1
end Go.Proofs.YtoeiemeffiiidaaDoor

namespace Go.Proofs.YtoeiemeffiiidaaDoor
set_option maxRecDepth 100000
set_option linter.unusedSimpArgs false
set_option linter.unusedVariables false
open Go.RowKit

/-- All is in its bounds. -/
def goodL (l : List Hd) : Prop := ∀ x ∈ l, (0 ≤ x.n ∧ x.n ≤ 16777216) ∧ (0 ≤ x.time ∧ x.time ≤ 2199023255552)
def sumL (l : List Hd) : Int := (l.map Hd.n).sum
theorem sumL_cons (x : Hd) (l : List Hd) : sumL (x :: l) = x.n + sumL l := by simp [sumL]
theorem sumL_append (l m : List Hd) : sumL (l ++ m) = sumL l + sumL m := by
  induction l with
  | nil => simp [sumL]
  | cons x l ih => rw [List.cons_append, sumL_cons, sumL_cons, ih]; omega
theorem sumL_one (l : List Hd) (z : Hd) : sumL (l ++ [z]) = sumL l + z.n := by rw [sumL_append]; simp [sumL]
theorem sumK_all (l : List Hd) : sumK l l.length = sumL l := by unfold sumK sumL; rw [List.take_length]
theorem goodL.nil : goodL [] := fun x h => by cases h
theorem goodL.tail {x : Hd} {l : List Hd} (h : goodL (x :: l)) : goodL l := fun y hy => h y (List.mem_cons_of_mem _ hy)
theorem goodL.drop {l : List Hd} (h : goodL l) (k : Nat) : goodL (l.drop k) := fun y hy => h y (List.mem_of_mem_drop hy)
theorem goodL.times {l : List Hd} (h : goodL l) : ∀ x ∈ l, 0 ≤ x.time ∧ x.time ≤ 2199023255552 := fun x hx => (h x hx).2
theorem goodL.ns {l : List Hd} (h : goodL l) : ∀ x ∈ l, 0 ≤ x.n ∧ x.n ≤ 16777216 := fun x hx => (h x hx).1
theorem sumL_bound {l : List Hd} (h : goodL l) : 0 ≤ sumL l ∧ sumL l ≤ 16777216 * (l.length : Int) := by
  induction l with
  | nil => simp [sumL]
  | cons x l ih =>
    have h1 := ih h.tail
    have h2 := (h x List.mem_cons_self).1
    rw [sumL_cons, List.length_cons]
    omega
theorem goodL.put {l : List Hd} {z : Hd} (h : goodL l) (ok : okQ l z = true) : goodL (l ++ [z]) := by
  have hn := lastT_nn h.times
  unfold okQ at ok
  obtain ⟨⟨⟨⟨_, _⟩, h3, h4⟩, h5⟩, h6⟩ : (((0 ≤ z.at_ ∧ z.at_ ≤ 16777216) ∧ (0 ≤ z.n ∧ z.n ≤ 16777216)) ∧ ¬ z.time < lastT l) ∧ ¬ (2199023255552 : Int) < z.time := by
    simpa only [Bool.and_eq_true, Bool.not_eq_true', decide_eq_false_iff_not, decide_eq_true_eq] using ok
  intro x hx
  rcases List.mem_append.1 hx with hx | hx
  · exact h x hx
  · obtain rfl : x = z := by simpa using hx
    exact ⟨⟨h3, h4⟩, by omega, by omega⟩
theorem okQ_time {l : List Hd} {z : Hd} (h : goodL l) (ok : okQ l z = true) : 0 ≤ z.time := ((h.put ok) z (by simp)).2.1
theorem okQ_n {l : List Hd} {z : Hd} (h : goodL l) (ok : okQ l z = true) : 0 ≤ z.n ∧ z.n ≤ 16777216 := ((h.put ok) z (by simp)).1
theorem bytesF_sum : ∀ (tk rest : List Hd), goodL (tk ++ rest) → (tk ++ rest).length ≤ 1000 → bytesF (sumL (tk ++ rest)) tk = sumL rest
  | [], rest, _, _ => rfl
  | x :: tk, rest, hg, hl => by
    have hg' : goodL (tk ++ rest) := hg.tail
    have hb := sumL_bound hg'
    have hl' : (tk ++ rest).length ≤ 1000 := by simp at hl ⊢; omega
    have e : IntKind.i64.wrap (sumL (x :: tk ++ rest) - x.n) = sumL (tk ++ rest) := by
      rw [List.cons_append, sumL_cons, show x.n + sumL (tk ++ rest) - x.n = sumL (tk ++ rest) by omega]
      rw [IntKind.wrap_i64]
      omega
    show bytesF (IntKind.i64.wrap (sumL (x :: tk ++ rest) - x.n)) tk = sumL rest
    rw [e]
    exact bytesF_sum tk rest hg' hl'
theorem Qs.extOf {w0 w w' : World} {q base : Nat} {full bytes : Int} {v : Value} {l : List Hd} (h : Qs w q base full bytes v l) (hE : Ext w0 w) (hb : w0.heap.size ≤ base) (ho : Only (tch q v) w w') : Ext w0 w' :=
  Ext.only hE ho (by
    rintro i (rfl | h')
    · exact Nat.le_trans hb h.2.2.2.2.1
    · exact Nat.le_trans hb (h.2.2.2.1.lt i h').1)
theorem Rq.extOf {w0 w w' : World} {q base : Nat} {full : Int} {v : Value} {l : List Hd} (h : Rq w q base full v l) (hE : Ext w0 w) (hb : w0.heap.size ≤ base) (ho : Only (tch q v) w w') : Ext w0 w' :=
  Ext.only hE ho (by
    rintro i (rfl | h')
    · exact Nat.le_trans hb h.2.2.2.2.1
    · exact Nat.le_trans hb (h.2.2.2.1.lt i h').1)
theorem Only.tch {q : Nat} {v : Value} {w w' : World} (h : Only (· = q) w w') : Only (tch q v) w w' := h.mono fun _ e => .inl e
theorem RdH.only {S : Nat → Prop} {w w' : World} {A : Option Addr} {l : List Hd} (h : RdH w A l) (x : Only S w w') (hn : ∀ b o, A = some ⟨b, o, none⟩ → ¬ S b) : RdH w' A l := fun h0 => by
  obtain ⟨b, o, e, hb, hc⟩ := h h0
  exact ⟨b, o, e, Nat.lt_of_lt_of_le hb x.size, fun j u hj => (x.cells b _ hb (hn b o e)).trans (hc j u hj)⟩
theorem RdH.new (w : World) (z : Hd) (T : TypeId) : RdH (w.alloc (.cells #[.int .i64 z.at_, .int .i64 z.n, .int .i64 z.time] T)) (some ⟨w.heap.size, 0, none⟩) [z] := fun _ =>
  ⟨w.heap.size, 0, rfl, by simp, fun j u hj => (Row.new w #[.int .i64 z.at_, .int .i64 z.n, .int .i64 z.time] T).at_ j u (by rw [hdList_one] at hj; exact hj)⟩
theorem wrapN {x : Int} (h0 : 0 ≤ x) (h1 : x ≤ 99999999999) : wrap64 x = x := by simp [wrap64]; omega
theorem qputT (q base : Nat) (full : Int) (v : Value) (l : List Hd) (w : World) (h : Qs w q base full (sumL l) v l) (hg : goodL l) (hl : l.length ≤ 1000) (z : Hd) (hok : okQ l z = true) : Calls Tryd.prog 32 #[.pointer (some ⟨q, 0, none⟩), .agg #[.int .i64 z.at_, .int .i64 z.n, .int .i64 z.time]] w fun e w' => ∃ v', e = .returned (.bool true) ∧ Hid (Qs w' q base full (sumL (l ++ [z])) v' (l ++ [z])) ∧ Only (tch q v) w w' ∧ (∀ g, v'.ownBlock = some g → v.ownBlock = some g ∨ w.heap.size ≤ g) := by
  have hb := sumL_bound hg
  have hn := okQ_n hg hok
  refine (qput_ q base full (sumL l) v l w h (by omega) z hok (wrapN (by omega) (by omega))).mono ?_
  rintro e w' ⟨v', rfl, hq, ho, hv⟩
  exact ⟨v', rfl, hid (by rw [sumL_one]; exact hq), ho, hv⟩
theorem tw_end0 {α : Type} (p : α → Bool) : ∀ l : List α, l.take (l.takeWhile p).length = l.takeWhile p
  | [] => by simp
  | x :: l => by
    cases hx : p x with
    | false => simp [List.takeWhile, hx]
    | true => simp only [List.takeWhile, hx, List.length_cons, List.take_succ_cons, tw_end0 p l]
theorem qdueT (q base : Nat) (full : Int) (v : Value) (l : List Hd) (w : World) (h : Qs w q base full (sumL l) v l) (hg : goodL l) (hl : l.length ≤ 1000) (now : Int) (tk rest : List Hd) (e1 : l.takeWhile (dueB now) = tk) (e2 : l.drop tk.length = rest) : Calls Tryd.prog 38 #[.pointer (some ⟨q, 0, none⟩), .int .i64 now] w fun e w' => ∃ A ca v', e = .returned (.slice A tk.length ca) ∧ Hid (Qs w' q base full (sumL rest) v' rest) ∧ Hid (RdH w' A tk) ∧ Only (fun i => i = q) w w' ∧ (∀ g, v'.ownBlock = some g → v.ownBlock = some g) ∧ Hid (∀ b o, A = some ⟨b, o, none⟩ → w.heap.size ≤ b) := by
  subst e1
  refine (qdue_ q base full (sumL l) v l w h now (by omega) hg.times).mono ?_
  rintro e w' ⟨vr, v', rfl, hq, ho, hx, hv⟩
  obtain ⟨A, ca, rfl, _, _⟩ := ho.shape
  have hsp : l.takeWhile (dueB now) ++ l.drop (l.takeWhile (dueB now)).length = l := by
    conv => rhs; rw [← List.take_append_drop (l.takeWhile (dueB now)).length l]
    rw [tw_end0]
  rw [e2] at hq hsp
  have hs := bytesF_sum (l.takeWhile (dueB now)) rest (by rw [hsp]; exact hg) (by rw [hsp]; exact hl)
  rw [hsp] at hs
  rw [hs] at hq
  exact ⟨A, ca, v', rfl, hid hq, hid (ho.rdH rfl), hx, fun g hg => hv ▸ hg, hid (fun b o e => (ho.lt b (by rw [e]; rfl)).1)⟩
theorem qallT (q base : Nat) (full : Int) (v : Value) (l : List Hd) (w : World) (h : Qs w q base full (sumL l) v l) (hg : goodL l) (hl : l.length ≤ 1000) : Calls Tryd.prog 35 #[.pointer (some ⟨q, 0, none⟩)] w fun e w' => ∃ A ca, e = .returned (.slice A l.length ca) ∧ Hid (RdH w' A l) ∧ Ext w w' := by
  refine (qall_ q base full (sumL l) v l w h (by omega)).mono ?_
  rintro e w' ⟨v', rfl, ho, hx⟩
  have ho := ownsAt_of ho.out
  obtain ⟨A, ca, rfl, _, _⟩ := ho.shape
  exact ⟨A, ca, rfl, hid (ho.rdH rfl), hx⟩
end Go.Proofs.YtoeiemeffiiidaaDoor
