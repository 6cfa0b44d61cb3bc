/- Layer 13: what is kept apart. -/
import Derived.Test.YtlbemgkdpagoiaaOwnAt
import Derived.Test.YtlbemgkdpagoiaaStepO
import Derived.Test.YtlbemgkdpagoiaaStep
import Derived.Test.YtlbemgkdpagoiaaProg
namespace Go.Proofs.Ytlbemgkdpagoiaa
set_option linter.unusedSimpArgs false
set_option linter.unusedVariables false
open Go.RowKit

/-- What was freed. -/
structure Hd where
  at_ : Int
  n : Int
  time : Int
instance : Inhabited Hd := ⟨⟨0, 0, 0⟩⟩
def Hd.cells (h : Hd) : List Value := [.int .i64 h.at_, .int .i64 h.n, .int .i64 h.time]
def hdList (l : List Hd) : List Value := l.flatMap Hd.cells
theorem hdList_length (l : List Hd) : (hdList l).length = l.length * 3 := by
  induction l with
  | nil => rfl
  | cons h l ih => simp only [hdList, List.flatMap_cons, List.length_append, List.length_cons] at ih ⊢; rw [ih]; simp [Hd.cells]; omega
theorem hdList_append (l m : List Hd) : hdList (l ++ m) = hdList l ++ hdList m := by simp [hdList]
theorem hdList_one (h : Hd) : hdList [h] = h.cells := by simp [hdList]
theorem hdList_drop (l : List Hd) (k : Nat) : (hdList l).drop (k * 3) = hdList (l.drop k) := by
  induction l generalizing k with
  | nil => simp [hdList]
  | cons h l ih =>
    cases k with
    | zero => simp
    | succ k =>
      have := ih k
      simp only [hdList, List.flatMap_cons] at this ⊢
      rw [List.drop_succ_cons, ← this, show (k + 1) * 3 = h.cells.length + k * 3 by simp [Hd.cells]; omega, List.drop_length_add_append]
theorem hdList_at (l : List Hd) (i j : Nat) (hi : i < l.length) (hj : j < 3) : (hdList l)[i * 3 + j]? = (l[i]).cells[j]? := by
  induction l generalizing i with
  | nil => simp at hi
  | cons h l ih =>
    simp only [hdList, List.flatMap_cons]
    cases i with
    | zero => rw [Nat.zero_mul, Nat.zero_add, List.getElem?_append_left (by simpa [Hd.cells] using hj)]; rfl
    | succ i =>
      rw [List.getElem?_append_right (by simp [Hd.cells]; omega)]
      have := ih i (by simpa using hi)
      simp only [hdList] at this
      rw [show (i + 1) * 3 + j - h.cells.length = i * 3 + j by simp [Hd.cells]; omega, this]
      rfl
theorem hd_one (h : Hd) : ∀ u ∈ h.cells, u.oneCell' = true := by
  intro u hu
  simp only [Hd.cells, List.mem_cons, List.not_mem_nil, or_false] at hu
  rcases hu with rfl | rfl | rfl <;> rfl
/-- The one at block q: its three fields; what is held is a slice of its own. -/
def Qs (w : World) (q base : Nat) (full bytes : Int) (v : Value) (l : List Hd) : Prop :=
  q < w.heap.size ∧ (w.cell? ⟨q, 0, none⟩ = some (.int .i64 full) ∧ w.cell? ⟨q, 1, none⟩ = some (.int .i64 bytes) ∧ w.cell? ⟨q, 2, none⟩ = some v) ∧
  (w.frozen? ⟨q, 0, none⟩ = false ∧ w.frozen? ⟨q, 1, none⟩ = false ∧ w.frozen? ⟨q, 2, none⟩ = false) ∧ ownsAt w base 29 3 v l.length (hdList l) ∧ base ≤ q ∧ ∀ g, v.ownBlock = some g → ¬ g = q
theorem Qs.only {S : Nat → Prop} {w w' : World} {q base : Nat} {full bytes : Int} {v : Value} {l : List Hd} (h : Qs w q base full bytes v l) (x : Only S w w') (h1 : ¬ S q) (h2 : ∀ g, v.ownBlock = some g → ¬ S g) : Qs w' q base full bytes v l := by
  obtain ⟨hq, ⟨a0, a1, a2⟩, ⟨f0, f1, f2⟩, ho, hb, hn⟩ := h
  exact ⟨Nat.lt_of_lt_of_le hq x.size, ⟨(x.cells q 0 hq h1).trans a0, (x.cells q 1 hq h1).trans a1, (x.cells q 2 hq h1).trans a2⟩, ⟨(x.frozens q 0 hq h1).trans f0, (x.frozens q 1 hq h1).trans f1, (x.frozens q 2 hq h1).trans f2⟩, ho.only x h2, hb, hn⟩
theorem Qs.ext {w w' : World} {q base : Nat} {full bytes : Int} {v : Value} {l : List Hd} (h : Qs w q base full bytes v l) (x : Ext w w') : Qs w' q base full bytes v l := h.only (Only.ofExt (S := fun _ => False) x) id (fun _ _ => id)
set_option maxRecDepth 100000 in
set_option maxHeartbeats 4000000 in
theorem qbytes_ (q base : Nat) (full bytes : Int) (v : Value) (l : List Hd) (w : World) (h : Qs w q base full bytes v l) : Calls Try.prog 16 #[.pointer (some ⟨q, 0, none⟩)] w fun e w' => e = .returned (.int .i64 bytes) ∧ w' = w := by
  obtain ⟨A, ca, rfl, hca, _⟩ := h.2.2.2.1.shape
  obtain ⟨hq, ⟨a0, a1, a2⟩, _, ho, _⟩ := h
  go_enter Try.func16, Try.ntmps16
  go_wp2
  go_ret
  exact ⟨rfl, rfl⟩
set_option maxRecDepth 100000 in
set_option maxHeartbeats 4000000 in
theorem qmany_ (q base : Nat) (full bytes : Int) (v : Value) (l : List Hd) (w : World) (h : Qs w q base full bytes v l) : Calls Try.prog 18 #[.pointer (some ⟨q, 0, none⟩)] w fun e w' => e = .returned (.int .i64 l.length) ∧ w' = w := by
  obtain ⟨A, ca, rfl, hca, _⟩ := h.2.2.2.1.shape
  obtain ⟨hq, ⟨a0, a1, a2⟩, _, ho, _⟩ := h
  go_enter Try.func18, Try.ntmps18
  go_wp2
  go_ret
  exact ⟨rfl, rfl⟩
set_option maxRecDepth 100000 in
set_option maxHeartbeats 4000000 in
theorem qfull_ (q base : Nat) (full bytes : Int) (v : Value) (l : List Hd) (w : World) (h : Qs w q base full bytes v l) : Calls Try.prog 20 #[.pointer (some ⟨q, 0, none⟩)] w fun e w' => e = .returned (.bool (decide (full ≤ bytes))) ∧ Ext w w' := by
  obtain ⟨A, ca, rfl, hca, _⟩ := h.2.2.2.1.shape
  obtain ⟨hq, ⟨a0, a1, a2⟩, _, ho, _⟩ := h
  go_enter Try.func20, Try.ntmps20
  go_upto_region 1 with (fail)
  refine wp_region_grow (by kernel_rfl) (by kernel_rfl) (by first | (simp only [List.append]; rfl) | rfl) ?_; (repeat (first | ((first | refine quiet_pick_and (by rfl) (by rfl) (by rfl) (by rfl) ?_ | refine quiet_pick_or (by rfl) (by rfl) (by rfl) (by rfl) ?_); simp only [Act.put, List.setIfInBounds_toArray, List.set_cons_zero, List.set_cons_succ]) | go_big_quiet_step (fail) | (refine quiet_guard (v := ?_) (by rfl) (by rfl) (fun hX w hC => ?_) ?_; rotate_left; (obtain ⟨d, rfl⟩ := hC; (try simp only [Bool.and_eq_true, Bool.or_eq_false_iff] at hX); go_split_ands; go_simp; (first | with_reducible rfl | fail)); simp only [Act.put, List.setIfInBounds_toArray, List.set_cons_zero, List.set_cons_succ]))); refine wpQuiet_nil ?_; intro wq hq; obtain ⟨d, rfl⟩ := hq
  go_wp2
  go_ret
  exact ⟨rfl, (by repeat (first | (with_reducible exact Ext.refl _) | (with_reducible refine Ext.undrew ?_) | (with_reducible refine Ext.grow ?_ _) | (with_reducible refine Ext.drew ?_) | (with_reducible refine Ext.drewN ?_ _) | (with_reducible refine Ext.alloc ?_ _) | (with_reducible assumption) | ((with_reducible refine Ext.setCell ?_ ?_ _); rotate_left; (first | exact Nat.le_refl _ | ((try dsimp only); (try simp only [World.size_alloc, grow_size, World.size_setCell]); omega)))))⟩
set_option maxRecDepth 100000 in
set_option maxHeartbeats 4000000 in
theorem within_ (n : Int) (w : World) : Calls Try.prog 31 #[.int .i64 n] w fun e w' => e = .returned (.bool (decide (0 ≤ n) && decide (n ≤ 16777216))) ∧ w' = w := by
  by_cases h0 : 0 ≤ n
  · go_enter Try.func31, Try.ntmps31
    go_wp2
    go_ret
    exact ⟨by simp [h0], rfl⟩
  · go_enter Try.func31, Try.ntmps31
    go_wp2
    go_ret
    exact ⟨by rw [decide_eq_false (show ¬ 0 ≤ n by omega), Bool.false_and]; rfl, rfl⟩
set_option maxRecDepth 100000 in
set_option maxHeartbeats 4000000 in
theorem qnew_ (n : Int) (w : World) (h0 : 1 ≤ n) (h1 : n ≤ 16777216) : Calls Try.prog 9 #[.int .i64 n] w fun e w' => ∃ b, e = .returned (.pointer (some ⟨b, 0, none⟩)) ∧ w.heap.size ≤ b ∧ Ext w w' ∧ Qs w' b w.heap.size n 0 (.slice none 0 0) [] := by
  have h2 : ¬ n < 1 := by omega
  have h3 : ¬ (16777216 : Int) < n := by omega
  go_enter Try.func9, Try.ntmps9
  go_wp2
  go_ret
  exact ⟨w.heap.size, rfl, Nat.le_refl _, (by repeat (first | (with_reducible exact Ext.refl _) | (with_reducible refine Ext.undrew ?_) | (with_reducible refine Ext.grow ?_ _) | (with_reducible refine Ext.drew ?_) | (with_reducible refine Ext.drewN ?_ _) | (with_reducible refine Ext.alloc ?_ _) | (with_reducible assumption) | ((with_reducible refine Ext.setCell ?_ ?_ _); rotate_left; (first | exact Nat.le_refl _ | ((try dsimp only); (try simp only [World.size_alloc, grow_size, World.size_setCell]); omega))))), by simp, ⟨by simp [go_sem], by simp [go_sem], by simp [go_sem]⟩, ⟨by simp [go_sem], by simp [go_sem], by simp [go_sem]⟩, ownsAt_nil _ _ _ _, Nat.le_refl _, (fun g h => by cases h)⟩
theorem qnew_no (n : Int) (w : World) (h : n < 1 ∨ 16777216 < n) : Calls Try.prog 9 #[.int .i64 n] w fun e w' => e = .returned (.pointer none) ∧ w' = w := by
  by_cases h0 : n < 1
  · go_enter Try.func9, Try.ntmps9
    go_wp2
    go_ret
    exact ⟨rfl, rfl⟩
  · have h1 : (16777216 : Int) < n := by omega
    go_enter Try.func9, Try.ntmps9
    go_wp2
    go_ret
    exact ⟨rfl, rfl⟩

end Go.Proofs.Ytlbemgkdpagoiaa
