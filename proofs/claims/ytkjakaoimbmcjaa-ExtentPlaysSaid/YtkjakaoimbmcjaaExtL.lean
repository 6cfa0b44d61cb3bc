/- Layer 12: the search. -/
import Derived.Test.YtkjakaoimbmcjaaExtK
namespace Go.Proofs.Ytkjakaoimbmcjaa
set_option linter.unusedSimpArgs false
set_option linter.unusedVariables false
open Go.RowKit

theorem join_ (q base : Nat) (fr to : Int) (v : Value) (l : List Pr) (w : World) (h : Fr w q base fr to v l) (i : Nat) (hl9 : l.length ≤ 100000000) : Calls Try.prog 30 #[.pointer (some ⟨q, 0, none⟩), .int .i64 i] w fun e w' => e = .returned (.tuple #[]) ∧ ∃ v', Hid (Fr w' q base fr to v' (joinL l i)) ∧ Hid (Only (tch q v) w w') ∧ (∀ g, v'.ownBlock = some g → v.ownBlock = some g) := by
  by_cases h1 : i < 1
  · exact join_1 q base fr to v l w h i h1
  · by_cases h2 : l.length ≤ i
    · exact join_2 q base fr to v l w h i (by omega) h2
    · by_cases h3 : (l[i - 1]'(by omega)).hi = (l[i]'(by omega)).lo
      · exact join_4 q base fr to v l w h i (i - 1) (by omega) (by omega) (by omega) hl9 h3
      · exact join_3 q base fr to v l w h i (i - 1) (by omega) (by omega) (by omega) hl9 h3
set_option maxRecDepth 100000 in
set_option maxHeartbeats 4000000 in
theorem give1_ (q base : Nat) (fr to : Int) (v : Value) (l : List Pr) (w : World) (h : Fr w q base fr to v l) (BF BA : Nat) (at_ : Int) (hF : w.cell? ⟨BF, 0, none⟩ = some (.pointer (some ⟨q, 0, none⟩))) (hA : w.cell? ⟨BA, 0, none⟩ = some (.int .i64 at_)) (hf : BF < w.heap.size) (ha : BA < w.heap.size) (j : Nat) (hj : j < l.length) :
    Calls Try.prog 28 #[.int .i64 j, .pointer (some ⟨BF, 0, none⟩), .pointer (some ⟨BA, 0, none⟩)] w fun e w' => e = .returned (.bool (decide (at_ < (l[j]).hi))) ∧ Ext w w' := by
  obtain ⟨A, ca, rfl, hca, hnil⟩ := h.2.2.2.1.shape
  obtain ⟨b, o, rfl, hb, _, c1⟩ := (h.2.2.2.1.rdP rfl).two hj
  have hq1 := h.1
  have hq2 := h.2.1.2.2
  have k0 : (0 : Int) ≤ (j : Int) := by omega
  have k1 : (j : Int) < (l.length : Int) := by omega
  clear h
  generalize (l[j]).hi = y at c1
  go_enter Try.func28, Try.ntmps28
  go_upto_region 1 with (fail)
  refine wp_region_grow (by kernel_rfl) (by kernel_rfl) (by first | (simp only [List.append]; rfl) | rfl) ?_
  (repeat (go_big_quiet_step (fail)))
  refine wpQuiet_nil ?_
  intro wq hq
  obtain ⟨d, rfl⟩ := hq
  go_wp2
  go_ret
  exact ⟨rfl, (by repeat (first | (with_reducible exact Ext.refl _) | (with_reducible refine Ext.undrew ?_) | (with_reducible refine Ext.grow ?_ _) | (with_reducible refine Ext.drew ?_) | (with_reducible refine Ext.drewN ?_ _) | (with_reducible refine Ext.alloc ?_ _) | (with_reducible assumption) | ((with_reducible refine Ext.setCell ?_ ?_ _); rotate_left; (first | exact Nat.le_refl _ | ((try dsimp only); (try simp only [World.size_alloc, grow_size, World.size_setCell]); omega)))))⟩
set_option maxRecDepth 100000 in
set_option maxHeartbeats 4000000 in
theorem search_ (q base : Nat) (fr to : Int) (v : Value) (l : List Pr) (w : World) (h : Fr w q base fr to v l) (BF BA : Nat) (at_ : Int) (hF : w.cell? ⟨BF, 0, none⟩ = some (.pointer (some ⟨q, 0, none⟩))) (hA : w.cell? ⟨BA, 0, none⟩ = some (.int .i64 at_)) (hf : BF < w.heap.size) (ha : BA < w.heap.size) (hl : l.length ≤ 100000000)
    (hmono : ∀ (a b : Nat) (hb : b < l.length) (hab : a ≤ b), at_ < (l[a]'(by omega)).hi → at_ < (l[b]).hi) :
    Calls Try.prog 27 #[.int .i64 l.length, .func (.func 28) #[] #[.pointer (some ⟨BF, 0, none⟩), .pointer (some ⟨BA, 0, none⟩)]] w fun e w' => ∃ k : Nat, e = .returned (.int .i64 k) ∧ k ≤ l.length ∧ (∀ (j : Nat) (hj : j < l.length), j < k → (l[j]).hi ≤ at_) ∧ (∀ hk : k < l.length, at_ < (l[k]).hi) ∧ Ext w w' := by
  have HQ := hid h
  have HM := hid hmono
  have HF := hid hF
  have HA := hid hA
  clear h hmono hF hA
  have hfn : ∀ args w', Sem.run Try.prog (callFunc 28 args) w' = .ok (.enter 28 args) w' := fun args w' => enterOf Try.func28 (by kernel_rfl) (by kernel_rfl) _ _
  go_enter Try.func27, Try.ntmps27
  go_wp2
  go_loopw [5, 6] (fun x y wr => ∃ a b : Nat, a ≤ b ∧ b ≤ l.length ∧ x = .int .i64 a ∧ y = .int .i64 b ∧ Hid (∀ (j : Nat) (hj : j < l.length), j < a → (l[j]).hi ≤ at_) ∧ Hid (∀ (j : Nat) (hj : j < l.length), b ≤ j → at_ < (l[j]).hi) ∧ Ext w wr) (fun x y _ => (intOf y).toNat - (intOf x).toNat)
  case atStart => exact ⟨0, l.length, Nat.zero_le _, Nat.le_refl _, rfl, rfl, hid (fun j _ h => absurd h (by omega)), hid (fun j hj h => absurd h (by omega)), (by repeat (first | (with_reducible exact Ext.refl _) | (with_reducible refine Ext.undrew ?_) | (with_reducible refine Ext.grow ?_ _) | (with_reducible refine Ext.drew ?_) | (with_reducible refine Ext.drewN ?_ _) | (with_reducible refine Ext.alloc ?_ _) | (with_reducible assumption) | ((with_reducible refine Ext.setCell ?_ ?_ _); rotate_left; (first | exact Nat.le_refl _ | ((try dsimp only); (try simp only [World.size_alloc, grow_size, World.size_setCell]); omega)))))⟩
  case round =>
    obtain ⟨a, b, hab, hbl, rfl, rfl, HP, HN, hx⟩ := hrel
    by_cases hlt : a < b
    · have hk1 : (a : Int) < (b : Int) := by omega
      obtain ⟨m, hm⟩ : ∃ m, (a + b) / 2 = m := ⟨_, rfl⟩
      have hml : m < l.length := by omega
      have ham : a ≤ m := by omega
      have hmb : m < b := by omega
      have hsum : wrap64 ((a : Int) + (b : Int)) = (a : Int) + (b : Int) := wrapP (by omega) (by omega)
      have hmi : ((a : Int) + (b : Int)) / 2 = (m : Int) := by omega
      clear hm hsum
      have hG := hid (give1_ q base fr to v l wr (HQ.out.ext hx) BF BA at_ ((hx.cells BF 0 hf).trans HF.out) ((hx.cells BA 0 ha).trans HA.out) (Nat.lt_of_lt_of_le hf hx.size) (Nat.lt_of_lt_of_le ha hx.size) m hml)
      by_cases hp : at_ < (l[m]).hi
      · rw [decide_eq_true hp] at hG
        go_wp2_with (refine hG.out.mono ?_; rintro e w1 ⟨rfl, hy⟩)
        go_roundw
        case rel => exact ⟨a, m, ham, by omega, rfl, rfl, HP, hid (fun j hj h => HM.out m j hj h hp), hx.trans hy⟩
        case measure => simp [intOf]; omega
      · rw [decide_eq_false hp] at hG
        go_wp2_with (refine hG.out.mono ?_; rintro e w1 ⟨rfl, hy⟩)
        go_roundw
        case rel => exact ⟨m + 1, b, by omega, hbl, by go_num, rfl, hid (fun j hj h => Int.not_lt.1 (fun hh => absurd (HM.out j m hml (by omega) hh) (by omega))), HN, hx.trans hy⟩
        case measure => simp [intOf]; omega
    · obtain rfl : a = b := by omega
      have hk1 : ¬ (a : Int) < (a : Int) := by omega
      go_wp2
      go_ret
      exact ⟨a, rfl, hbl, HP.out, fun hk => HN.out a hk (Nat.le_refl _), hx⟩

end Go.Proofs.Ytkjakaoimbmcjaa
