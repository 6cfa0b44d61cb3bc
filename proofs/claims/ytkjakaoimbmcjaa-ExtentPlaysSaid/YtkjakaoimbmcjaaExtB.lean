/- Layer 12: New, All, Most. -/
import Derived.Test.YtkjakaoimbmcjaaExtA
namespace Go.Proofs.Ytkjakaoimbmcjaa
set_option linter.unusedSimpArgs false
set_option linter.unusedVariables false
open Go.RowKit

theorem wrapP {x : Int} (h0 : -9999999999999999 ≤ x) (h1 : x ≤ 9999999999999999) : wrap64 x = x := by simp [wrap64]; omega
theorem ownsAt_new (w : World) (T : TypeId) (p : Pr) (base n : Nat) (hn : n = w.heap.size) (hb : base ≤ n) : ownsAt (w.alloc (.cells #[.int .i64 p.lo, .int .i64 p.hi] T)) base T 2 (.slice (some ⟨n, 0, none⟩) 1 1) 1 (prList [p]) := by
  subst hn
  exact ⟨by rw [prList_length]; rfl, .inr ⟨w.heap.size, 0, 1, #[.int .i64 p.lo, .int .i64 p.hi], by simp, hb, by show (w.heap.push _)[w.heap.size]? = _; simp, Nat.le_refl _, by unfold maxLen; omega, .inr rfl, rfl⟩⟩
set_option maxRecDepth 100000 in
set_option maxHeartbeats 4000000 in
theorem enew_ (fr to : Int) (w : World) (hg : [fr, to].all g16 = true) (h0 : 0 ≤ fr) (h1 : fr < to) (h2 : to ≤ 16777216) :
    Calls Try.prog 9 #[.int .i64 fr, .int .i64 to] w fun e w' => ∃ b v, e = .returned (.pointer (some ⟨b, 0, none⟩)) ∧ w.heap.size ≤ b ∧ Ext w w' ∧ Fr w' b w.heap.size fr to v [Pr.mk fr to] := by
  have k0 : ¬ fr < 0 := by omega
  have k1 : ¬ to < fr := by omega
  have k2 : ¬ (16777216 : Int) < to := by omega
  go_enter Try.func9, Try.ntmps9
  go_upto_region 3 with (go_at_call 22; refine (gran_ (some ⟨w.heap.size, 0, none⟩) 2 [fr, to] _ (slAtNew w [.int .i64 fr, .int .i64 to] _) (by simp)).mono ?_; rw [hg]; rintro e w1 ⟨rfl, hx1⟩)
  have hx : Ext w w1 := (Ext.alloc (Ext.refl w) _).trans hx1
  clear hx1
  go_wp2
  go_ret
  refine ⟨w1.heap.size, .slice (some ⟨w1.heap.size + 1, 0, none⟩) 1 1, rfl, hx.size, ?e, ?_⟩
  case e => exact hx.trans (by repeat (first | (with_reducible exact Ext.refl _) | (with_reducible refine Ext.undrew ?_) | (with_reducible refine Ext.grow ?_ _) | (with_reducible refine Ext.drew ?_) | (with_reducible refine Ext.drewN ?_ _) | (with_reducible refine Ext.alloc ?_ _) | (with_reducible assumption) | ((with_reducible refine Ext.setCell ?_ ?_ _); rotate_left; (first | exact Nat.le_refl _ | ((try dsimp only); (try simp only [World.size_alloc, grow_size, World.size_setCell]); omega)))))
  refine ⟨by simp; omega, ⟨by simp [go_sem], by simp [go_sem], by simp [go_sem]⟩, ⟨by simp [go_sem], by simp [go_sem], by simp [go_sem]⟩, ?_, hx.size, fun g hg => by simp [Value.ownBlock] at hg; omega⟩
  exact ownsAt_new _ 38 ⟨fr, to⟩ w.heap.size (w1.heap.size + 1) (by simp) (by have := hx.size; omega)
theorem enew0_ (fr to : Int) (w : World) (hg : [fr, to].all g16 = true) (h0 : 0 ≤ fr) (h1 : fr = to) (h2 : to ≤ 16777216) :
    Calls Try.prog 9 #[.int .i64 fr, .int .i64 to] w fun e w' => ∃ b, e = .returned (.pointer (some ⟨b, 0, none⟩)) ∧ w.heap.size ≤ b ∧ Ext w w' ∧ Fr w' b w.heap.size fr to (.slice none 0 0) [] := by
  have k0 : ¬ fr < 0 := by omega
  have k1 : ¬ to < fr := by omega
  have k3 : ¬ fr < to := by omega
  have k2 : ¬ (16777216 : Int) < to := by omega
  clear h1
  go_enter Try.func9, Try.ntmps9
  go_upto_region 3 with (go_at_call 22; refine (gran_ (some ⟨w.heap.size, 0, none⟩) 2 [fr, to] _ (slAtNew w [.int .i64 fr, .int .i64 to] _) (by simp)).mono ?_; rw [hg]; rintro e w1 ⟨rfl, hx1⟩)
  have hx : Ext w w1 := (Ext.alloc (Ext.refl w) _).trans hx1
  clear hx1
  go_wp2
  go_ret
  exact ⟨w1.heap.size, rfl, hx.size, hx.trans (by repeat (first | (with_reducible exact Ext.refl _) | (with_reducible refine Ext.undrew ?_) | (with_reducible refine Ext.grow ?_ _) | (with_reducible refine Ext.drew ?_) | (with_reducible refine Ext.drewN ?_ _) | (with_reducible refine Ext.alloc ?_ _) | (with_reducible assumption) | ((with_reducible refine Ext.setCell ?_ ?_ _); rotate_left; (first | exact Nat.le_refl _ | ((try dsimp only); (try simp only [World.size_alloc, grow_size, World.size_setCell]); omega))))), by simp, ⟨by simp [go_sem], by simp [go_sem], by simp [go_sem]⟩, ⟨by simp [go_sem], by simp [go_sem], by simp [go_sem]⟩, ownsAt_nil _ _ _ _, hx.size, (fun g h => by cases h)⟩
set_option maxRecDepth 100000 in
set_option maxHeartbeats 4000000 in
theorem enew_no1 (fr to : Int) (w : World) (hg : [fr, to].all g16 = false) :
    Calls Try.prog 9 #[.int .i64 fr, .int .i64 to] w fun e w' => e = .returned (.pointer none) ∧ Ext w w' := by
  go_enter Try.func9, Try.ntmps9
  go_wp2_with (go_at_call 22; refine (gran_ (some ⟨w.heap.size, 0, none⟩) 2 [fr, to] _ (slAtNew w [.int .i64 fr, .int .i64 to] _) (by simp)).mono ?_; rw [hg]; rintro e w1 ⟨rfl, hx1⟩)
  go_ret
  exact ⟨rfl, (Ext.alloc (Ext.refl w) _).trans hx1⟩
set_option maxRecDepth 100000 in
set_option maxHeartbeats 4000000 in
theorem enew_no2 (fr to : Int) (w : World) (hg : [fr, to].all g16 = true) (k0 : fr < 0) :
    Calls Try.prog 9 #[.int .i64 fr, .int .i64 to] w fun e w' => e = .returned (.pointer none) ∧ Ext w w' := by
  go_enter Try.func9, Try.ntmps9
  go_wp2_with (go_at_call 22; refine (gran_ (some ⟨w.heap.size, 0, none⟩) 2 [fr, to] _ (slAtNew w [.int .i64 fr, .int .i64 to] _) (by simp)).mono ?_; rw [hg]; rintro e w1 ⟨rfl, hx1⟩)
  go_ret
  exact ⟨rfl, (Ext.alloc (Ext.refl w) _).trans hx1⟩
set_option maxRecDepth 100000 in
set_option maxHeartbeats 4000000 in
theorem enew_no3 (fr to : Int) (w : World) (hg : [fr, to].all g16 = true) (h0 : 0 ≤ fr) (k1 : to < fr) :
    Calls Try.prog 9 #[.int .i64 fr, .int .i64 to] w fun e w' => e = .returned (.pointer none) ∧ Ext w w' := by
  have k0 : ¬ fr < 0 := by omega
  go_enter Try.func9, Try.ntmps9
  go_wp2_with (go_at_call 22; refine (gran_ (some ⟨w.heap.size, 0, none⟩) 2 [fr, to] _ (slAtNew w [.int .i64 fr, .int .i64 to] _) (by simp)).mono ?_; rw [hg]; rintro e w1 ⟨rfl, hx1⟩)
  go_ret
  exact ⟨rfl, (Ext.alloc (Ext.refl w) _).trans hx1⟩
set_option maxRecDepth 100000 in
set_option maxHeartbeats 4000000 in
theorem enew_no4 (fr to : Int) (w : World) (hg : [fr, to].all g16 = true) (h0 : 0 ≤ fr) (h1 : fr ≤ to) (k2 : (16777216 : Int) < to) :
    Calls Try.prog 9 #[.int .i64 fr, .int .i64 to] w fun e w' => e = .returned (.pointer none) ∧ Ext w w' := by
  have k0 : ¬ fr < 0 := by omega
  have k1 : ¬ to < fr := by omega
  go_enter Try.func9, Try.ntmps9
  go_wp2_with (go_at_call 22; refine (gran_ (some ⟨w.heap.size, 0, none⟩) 2 [fr, to] _ (slAtNew w [.int .i64 fr, .int .i64 to] _) (by simp)).mono ?_; rw [hg]; rintro e w1 ⟨rfl, hx1⟩)
  go_ret
  exact ⟨rfl, (Ext.alloc (Ext.refl w) _).trans hx1⟩
set_option maxRecDepth 100000 in
set_option maxHeartbeats 4000000 in
theorem eall_ (q base : Nat) (fr to : Int) (v : Value) (l : List Pr) (w : World) (h : Fr w q base fr to v l) (hl : l.length ≤ 10000000) (ho : okF l) : Calls Try.prog 15 #[.pointer (some ⟨q, 0, none⟩)] w fun e w' => e = .returned (.int .i64 (sumP l)) ∧ Ext w w' := by
  obtain ⟨A, ca, rfl, hca, _⟩ := h.2.2.2.1.shape
  have HR := hid (h.2.2.2.1.rdP rfl)
  obtain ⟨hq, ⟨_, _, a2⟩, _, _, _⟩ := h
  have HO := hid ho
  clear ho
  go_enter Try.func15, Try.ntmps15
  go_wp2
  go_loopw [3, 11] (fun s i wr => ∃ k : Nat, k ≤ l.length ∧ s = .int .i64 (sumP (l.take k)) ∧ i = .int .i64 k ∧ Ext w wr) (fun _ i _ => l.length - (intOf i).toNat)
  case atStart => exact ⟨0, Nat.zero_le _, rfl, rfl, (by repeat (first | (with_reducible exact Ext.refl _) | (with_reducible refine Ext.undrew ?_) | (with_reducible refine Ext.grow ?_ _) | (with_reducible refine Ext.drew ?_) | (with_reducible refine Ext.drewN ?_ _) | (with_reducible refine Ext.alloc ?_ _) | (with_reducible assumption) | ((with_reducible refine Ext.setCell ?_ ?_ _); rotate_left; (first | exact Nat.le_refl _ | ((try dsimp only); (try simp only [World.size_alloc, grow_size, World.size_setCell]); omega)))))⟩
  case round =>
    obtain ⟨k, hk, rfl, rfl, hx⟩ := hrel
    by_cases hlt : k < l.length
    · obtain ⟨b, o, rfl, hb, c0, c1⟩ := (HR.out.ext hx).two hlt
      have hk1 : (k : Int) < (l.length : Int) := by omega
      have hk0 : (0 : Int) ≤ (k : Int) := by omega
      have hk2 : k + 1 ≤ l.length := by omega
      have hx1 := HO.out _ (List.getElem_mem hlt)
      have hbd := sumP_bound (HO.out.take k)
      have hkl : ((l.take k).length : Int) ≤ 10000000 := by rw [List.length_take]; omega
      have hsucc : l.take (k + 1) = l.take k ++ [l[k]] := List.take_succ_eq_append_getElem hlt
      obtain ⟨xl, hxl⟩ : ∃ x, (l[k]).lo = x := ⟨_, rfl⟩
      obtain ⟨xh, hxh⟩ : ∃ x, (l[k]).hi = x := ⟨_, rfl⟩
      have hle : (l[k]).len = xh - xl := by unfold Pr.len; rw [hxl, hxh]
      rw [hxl] at c0 hx1
      rw [hxh] at c1 hx1
      obtain ⟨d, hde⟩ : ∃ x, xh - xl = x := ⟨_, rfl⟩
      have hd : wrap64 (xh - xl) = d := by rw [hde]; exact wrapP (by omega) (by omega)
      rw [hde] at hle
      have HD := hid hd
      have hd0 : 0 ≤ d ∧ d ≤ 16777216 := by omega
      have HS : Hid (sumP (l.take (k + 1)) = sumP (l.take k) + d) := hid (by rw [hsucc, sumP_one, hle])
      obtain ⟨s, hs⟩ : ∃ x, sumP (l.take k) = x := ⟨_, rfl⟩
      rw [hs] at HS hbd ⊢
      have hws : wrap64 (s + d) = s + d := wrapP (by omega) (by omega)
      clear hd hde hxl hxh hsucc hle hbd hkl hs hx1 hd0
      go_wp2_with (go_at_call 25; refine (len_ ⟨xl, xh⟩ d HD.out _).mono ?_; rintro e w1 ⟨rfl, hy⟩; obtain ⟨dd, rfl⟩ := hy.grown; clear hy)
      go_roundw
      case rel => exact ⟨k + 1, hk2, by rw [HS.out, hws], by go_num, (by repeat (first | (with_reducible exact Ext.refl _) | (with_reducible refine Ext.undrew ?_) | (with_reducible refine Ext.grow ?_ _) | (with_reducible refine Ext.drew ?_) | (with_reducible refine Ext.drewN ?_ _) | (with_reducible refine Ext.alloc ?_ _) | (with_reducible assumption) | ((with_reducible refine Ext.setCell ?_ ?_ _); rotate_left; (first | exact Nat.le_refl _ | ((try dsimp only); (try simp only [World.size_alloc, grow_size, World.size_setCell]); omega)))))⟩
      case measure => simp [intOf]; omega
    · obtain rfl : k = l.length := by omega
      have hk1 : ¬ (l.length : Int) < (l.length : Int) := by omega
      go_wp2
      go_ret
      exact ⟨by first | rfl | rw [List.take_length], hx⟩
set_option maxRecDepth 100000 in
set_option maxHeartbeats 4000000 in
theorem emost_ (q base : Nat) (fr to : Int) (v : Value) (l : List Pr) (w : World) (h : Fr w q base fr to v l) (hl : l.length ≤ 10000000) (ho : okF l) : Calls Try.prog 17 #[.pointer (some ⟨q, 0, none⟩)] w fun e w' => e = .returned (.int .i64 (mostP l)) ∧ Ext w w' := by
  obtain ⟨A, ca, rfl, hca, _⟩ := h.2.2.2.1.shape
  have HR := hid (h.2.2.2.1.rdP rfl)
  obtain ⟨hq, ⟨_, _, a2⟩, _, _, _⟩ := h
  have HO := hid ho
  clear ho
  go_enter Try.func17, Try.ntmps17
  go_wp2
  go_loopw [3, 11] (fun s i wr => ∃ k : Nat, k ≤ l.length ∧ s = .int .i64 (mostP (l.take k)) ∧ i = .int .i64 k ∧ Ext w wr) (fun _ i _ => l.length - (intOf i).toNat)
  case atStart => exact ⟨0, Nat.zero_le _, rfl, rfl, (by repeat (first | (with_reducible exact Ext.refl _) | (with_reducible refine Ext.undrew ?_) | (with_reducible refine Ext.grow ?_ _) | (with_reducible refine Ext.drew ?_) | (with_reducible refine Ext.drewN ?_ _) | (with_reducible refine Ext.alloc ?_ _) | (with_reducible assumption) | ((with_reducible refine Ext.setCell ?_ ?_ _); rotate_left; (first | exact Nat.le_refl _ | ((try dsimp only); (try simp only [World.size_alloc, grow_size, World.size_setCell]); omega)))))⟩
  case round =>
    obtain ⟨k, hk, rfl, rfl, hx⟩ := hrel
    by_cases hlt : k < l.length
    · obtain ⟨b, o, rfl, hb, c0, c1⟩ := (HR.out.ext hx).two hlt
      have hk1 : (k : Int) < (l.length : Int) := by omega
      have hk0 : (0 : Int) ≤ (k : Int) := by omega
      have hk2 : k + 1 ≤ l.length := by omega
      have hx1 := HO.out _ (List.getElem_mem hlt)
      have hbd := sumP_bound (HO.out.take k)
      have hkl : ((l.take k).length : Int) ≤ 10000000 := by rw [List.length_take]; omega
      have hsucc : l.take (k + 1) = l.take k ++ [l[k]] := List.take_succ_eq_append_getElem hlt
      obtain ⟨xl, hxl⟩ : ∃ x, (l[k]).lo = x := ⟨_, rfl⟩
      obtain ⟨xh, hxh⟩ : ∃ x, (l[k]).hi = x := ⟨_, rfl⟩
      have hle : (l[k]).len = xh - xl := by unfold Pr.len; rw [hxl, hxh]
      rw [hxl] at c0 hx1
      rw [hxh] at c1 hx1
      obtain ⟨d, hde⟩ : ∃ x, xh - xl = x := ⟨_, rfl⟩
      have hd : wrap64 (xh - xl) = d := by rw [hde]; exact wrapP (by omega) (by omega)
      rw [hde] at hle
      have HD := hid hd
      have hd0 : 0 ≤ d ∧ d ≤ 16777216 := by omega
      have HS : Hid (mostP (l.take (k + 1)) = max (mostP (l.take k)) d) := hid (by rw [hsucc, mostP_one, hle])
      obtain ⟨s, hs⟩ : ∃ x, mostP (l.take k) = x := ⟨_, rfl⟩
      rw [hs] at HS ⊢
      clear hd hde hxl hxh hsucc hle hbd hkl hs hx1 hd0
      by_cases hm : s < d
      · have HM : Hid (max s d = d) := hid (by omega)
        go_wp2_with (go_at_call 25; refine (len_ ⟨xl, xh⟩ d HD.out _).mono ?_; rintro e w1 ⟨rfl, hy⟩; obtain ⟨dd, rfl⟩ := hy.grown; clear hy)
        go_roundw
        case rel => exact ⟨k + 1, hk2, by rw [HS.out, HM.out], by go_num, (by repeat (first | (with_reducible exact Ext.refl _) | (with_reducible refine Ext.undrew ?_) | (with_reducible refine Ext.grow ?_ _) | (with_reducible refine Ext.drew ?_) | (with_reducible refine Ext.drewN ?_ _) | (with_reducible refine Ext.alloc ?_ _) | (with_reducible assumption) | ((with_reducible refine Ext.setCell ?_ ?_ _); rotate_left; (first | exact Nat.le_refl _ | ((try dsimp only); (try simp only [World.size_alloc, grow_size, World.size_setCell]); omega)))))⟩
        case measure => simp [intOf]; omega
      · have HM : Hid (max s d = s) := hid (by omega)
        go_wp2_with (go_at_call 25; refine (len_ ⟨xl, xh⟩ d HD.out _).mono ?_; rintro e w1 ⟨rfl, hy⟩; obtain ⟨dd, rfl⟩ := hy.grown; clear hy)
        go_roundw
        case rel => exact ⟨k + 1, hk2, by rw [HS.out, HM.out], by go_num, (by repeat (first | (with_reducible exact Ext.refl _) | (with_reducible refine Ext.undrew ?_) | (with_reducible refine Ext.grow ?_ _) | (with_reducible refine Ext.drew ?_) | (with_reducible refine Ext.drewN ?_ _) | (with_reducible refine Ext.alloc ?_ _) | (with_reducible assumption) | ((with_reducible refine Ext.setCell ?_ ?_ _); rotate_left; (first | exact Nat.le_refl _ | ((try dsimp only); (try simp only [World.size_alloc, grow_size, World.size_setCell]); omega)))))⟩
        case measure => simp [intOf]; omega
    · obtain rfl : k = l.length := by omega
      have hk1 : ¬ (l.length : Int) < (l.length : Int) := by omega
      go_wp2
      go_ret
      exact ⟨by first | rfl | rw [List.take_length], hx⟩

end Go.Proofs.Ytkjakaoimbmcjaa
