/- Layer 15: Right. -/
import Derived.Test.YtcbniifpbcgamaaCodB
namespace Go.Proofs.Ytcbniifpbcgamaa
set_option linter.unusedSimpArgs false
set_option linter.unusedVariables false
open Go.RowKit

set_option maxRecDepth 100000 in
set_option maxHeartbeats 4000000 in
theorem right_ (op a b c : Int) (w : World) :
    Calls Try.prog 17 #[.agg #[.int .i64 op, .int .i64 a, .int .i64 b, .int .i64 c]] w fun e w' => e = .returned (.bool (rightI op a b c)) ∧ Ext w w' := by
  have hR := rightS_kstr op a b c
  have hs3 : (kstr (kd op)).size ≤ 3 := by have := kstr_size ⟨kd op, kd_lt op⟩; simp only at this; split at this <;> omega
  have has : ∀ i, i < 3 → chAt (kstr (kd op)) i < 128 := fun i hi => kstr_ascii ⟨kd op, kd_lt op⟩ ⟨i, hi⟩
  have hfn : ∀ args w', Sem.run Try.prog (callFunc 25 args) w' = .ok (.enter 25 args) w' := fun args w' => enterOf' Try.func25 (by kernel_rfl) (by kernel_rfl) args w'
  have hK := fun w => kinds_ op w
  generalize kstr (kd op) = s at hR hs3 has hK
  rw [← hR]
  have HAS := hid has
  have HK := hid hK
  clear hR has hK
  go_enter Try.func17, Try.ntmps17
  go_wp2_with (go_at_call 15; refine (HK.out _).mono ?_; rintro e w1 ⟨rfl, hy⟩; obtain ⟨d, rfl⟩ := hy.grown; clear hy)
  have f1 : Hid (Ext w (Go.Proofs.Ytcbniifpbcgamaa.grow ((w.alloc (.cells #[.int .i64 op, .int .i64 a, .int .i64 b, .int .i64 c] 23)).alloc (.cells #[.int .i64 a, .int .i64 b, .int .i64 c] 48)) d)) := hid (by repeat (first | (with_reducible exact Ext.refl _) | (with_reducible refine Ext.undrew ?_) | (with_reducible refine Ext.grow ?_ _) | (with_reducible refine Ext.drew ?_) | (with_reducible refine Ext.drewN ?_ _) | (with_reducible refine Ext.alloc ?_ _) | (with_reducible assumption) | ((with_reducible refine Ext.setCell ?_ ?_ _); rotate_left; (first | exact Nat.le_refl _ | ((try dsimp only); (try simp only [World.size_alloc, grow_size, World.size_setCell]); omega)))))
  have f3 : ∀ i, i < 3 → (Go.Proofs.Ytcbniifpbcgamaa.grow ((w.alloc (.cells #[.int .i64 op, .int .i64 a, .int .i64 b, .int .i64 c] 23)).alloc (.cells #[.int .i64 a, .int .i64 b, .int .i64 c] 48)) d).cell? ⟨w.heap.size + 1, i, none⟩ = some (.int .i64 (v3 a b c i)) := fun i hi => by
    match i, hi with
    | 0, _ => simp [go_sem, v3]
    | 1, _ => simp [go_sem, v3]
    | 2, _ => simp [go_sem, v3]
  have f4 : w.heap.size + 1 + 1 + d.n = (Go.Proofs.Ytcbniifpbcgamaa.grow ((w.alloc (.cells #[.int .i64 op, .int .i64 a, .int .i64 b, .int .i64 c] 23)).alloc (.cells #[.int .i64 a, .int .i64 b, .int .i64 c] 48)) d).heap.size := by simp [grow_size]
  rw [f4]
  generalize (Go.Proofs.Ytcbniifpbcgamaa.grow ((w.alloc (.cells #[.int .i64 op, .int .i64 a, .int .i64 b, .int .i64 c] 23)).alloc (.cells #[.int .i64 a, .int .i64 b, .int .i64 c] 48)) d) = W at f1 f3 f4 ⊢
  have F3 := hid f3
  have hq : w.heap.size + 1 < W.heap.size := by omega
  clear f3 f4
  go_loopw [] (fun wr => ∃ i : Nat, i ≤ s.size ∧ Hid (wr.heap[W.heap.size]? = some (.stringIter s i)) ∧ Hid (∀ j, j < i → okAt s (v3 a b c) j = true) ∧ Hid (Ext W wr)) (fun wr => s.size - wr.iterPos W.heap.size)
  case atStart => exact ⟨0, Nat.zero_le _, hid (World.iter_heap _ _ _), hid fun j hj => absurd hj (by omega), hid (Ext.alloc (Ext.refl W) _)⟩
  case round =>
    obtain ⟨i, hi, hit, hall, hx⟩ := hrel
    by_cases hlt : i < s.size
    · have hi3 : i < 3 := by omega
      have ha := HAS.out i hi3
      have hch := chAt_get hlt
      have hc := (hx.out.cells (w.heap.size + 1) i hq).trans (F3.out i hi3)
      have hs := hx.out.size
      have hqr : w.heap.size + 1 < wr.heap.size := by omega
      have hqn : ¬ w.heap.size + 1 = W.heap.size := by omega
      have HI0 : (0 : Int) ≤ (i : Int) := by omega
      have HI1 : (i : Int) < 3 := by omega
      have hwt : Hid ((wr.iterAt W.heap.size s (i + 1)).heap[W.heap.size]? = some (.stringIter s (i + 1))) := hid (Lib.iterAt_heap _ _ _ _ _ hit.out)
      have hxt : Hid (Ext W (wr.iterAt W.heap.size s (i + 1))) := hid (Ext.turn hx.out (Nat.le_refl _) _)
      have hct := (turn_cell wr W.heap.size (.stringIter s (i + 1)) (w.heap.size + 1) i hqn).trans hc
      have hst : (wr.iterAt W.heap.size s (i + 1)).heap.size = wr.heap.size := turn_size _ _ _
      rw [← turn_iter] at hct
      have hnx := fun ty => Lib.run_next_ascii_at (P := Try.prog) wr W.heap.size s i ty hit.out hlt (by rw [hch]; exact ha)
      rw [hch] at hnx
      have HNX := hid hnx
      clear hnx hch hc hqn
      generalize wr.iterAt W.heap.size s (i + 1) = wt at hwt hxt hct hst HNX
      have hqt : w.heap.size + 1 < wt.heap.size := by omega
      have hkt : W.heap.size < wt.heap.size := (Array.getElem?_eq_some_iff.1 hwt.out).1
      cases hB : okAt s (v3 a b c) i with
      | true =>
        have HB := hid hB
        have HALL := hid (upto_snoc hall.out hB)
        clear hB hall hst hs hqr
        go_wp2
        rw [HNX.out]
        go_wp2_with (first | (go_at_call 23; refine Calls.mono (of_ (chAt s i) _) ?_; rintro e w1 ⟨rfl, rfl⟩) | (refine Calls.mono (has_ (loOf (chAt s i)) (hiOf (chAt s i)) (v3 a b c i) _) ?_; rw [show hasV (loOf (chAt s i)) (hiOf (chAt s i)) (v3 a b c i) = okAt s (v3 a b c) i from rfl, HB.out]; rintro e w1 ⟨rfl, hy⟩; obtain ⟨d, rfl⟩ := hy.grown; clear hy))
        go_roundw
        case rel => exact ⟨i + 1, by omega, hid ((grow_old wt d _ hkt).trans hwt.out), HALL, hid (Ext.trans hxt.out (by repeat (first | (with_reducible exact Ext.refl _) | (with_reducible refine Ext.undrew ?_) | (with_reducible refine Ext.grow ?_ _) | (with_reducible refine Ext.drew ?_) | (with_reducible refine Ext.drewN ?_ _) | (with_reducible refine Ext.alloc ?_ _) | (with_reducible assumption) | ((with_reducible refine Ext.setCell ?_ ?_ _); rotate_left; (first | exact Nat.le_refl _ | ((try dsimp only); (try simp only [World.size_alloc, grow_size, World.size_setCell]); omega))))))⟩
        case measure =>
          have e1 : wr.iterPos W.heap.size = i := by simp [World.iterPos, hit.out]
          rw [e1]
          simp only [World.iterPos]
          rw [grow_old wt d _ hkt, hwt.out]
          simp only
          omega
      | false =>
        have HB := hid hB
        have hno : rightS s (v3 a b c) = false := by unfold rightS; rw [all_range_false hlt hB]; rfl
        have HNO := hid hno
        clear hB hall hst hs hqr hno
        go_wp2
        rw [HNX.out]
        go_wp2_with (first | (go_at_call 23; refine Calls.mono (of_ (chAt s i) _) ?_; rintro e w1 ⟨rfl, rfl⟩) | (refine Calls.mono (has_ (loOf (chAt s i)) (hiOf (chAt s i)) (v3 a b c i) _) ?_; rw [show hasV (loOf (chAt s i)) (hiOf (chAt s i)) (v3 a b c i) = okAt s (v3 a b c) i from rfl, HB.out]; rintro e w1 ⟨rfl, hy⟩; obtain ⟨d, rfl⟩ := hy.grown; clear hy))
        go_ret
        exact ⟨by rw [HNO.out]; rfl, Ext.trans f1.out (Ext.trans hxt.out (by repeat (first | (with_reducible exact Ext.refl _) | (with_reducible refine Ext.undrew ?_) | (with_reducible refine Ext.grow ?_ _) | (with_reducible refine Ext.drew ?_) | (with_reducible refine Ext.drewN ?_ _) | (with_reducible refine Ext.alloc ?_ _) | (with_reducible assumption) | ((with_reducible refine Ext.setCell ?_ ?_ _); rotate_left; (first | exact Nat.le_refl _ | ((try dsimp only); (try simp only [World.size_alloc, grow_size, World.size_setCell]); omega))))))⟩
    · have hi' : i = s.size := by omega
      subst hi'
      have hall' := all_range_true hall.out
      have hyes : rightS s (v3 a b c) = !decide (s.size = 0) := by unfold rightS; rw [hall']; rfl
      have HY := hid hyes
      have HNX := hid fun ty => Lib.run_next_end_at (P := Try.prog) wr W.heap.size s s.size ty hit.out (by omega)
      have hemp : (!s.toList.isEmpty) = !decide (s.size = 0) := by
        rw [ByteArray.toList_eq]
        by_cases h0 : s.size = 0
        · have e : s.data.toList = [] := by
            apply List.eq_nil_of_length_eq_zero
            simpa using h0
          rw [e]
          simp [h0]
        · have e : ¬ s.data.toList = [] := fun e => h0 (by have := congrArg List.length e; simpa using this)
          simp only [h0, decide_false, Bool.not_false, Bool.not_eq_true', List.isEmpty_eq_false_iff]
          exact e
      have HE := hid hemp
      clear hall' hall hyes hemp
      go_wp2
      rw [HNX.out]
      go_wp2
      go_ret
      exact ⟨by rw [HY.out, ← HE.out]; rfl, Ext.trans f1.out (Ext.trans hx.out (by repeat (first | (with_reducible exact Ext.refl _) | (with_reducible refine Ext.undrew ?_) | (with_reducible refine Ext.grow ?_ _) | (with_reducible refine Ext.drew ?_) | (with_reducible refine Ext.drewN ?_ _) | (with_reducible refine Ext.alloc ?_ _) | (with_reducible assumption) | ((with_reducible refine Ext.setCell ?_ ?_ _); rotate_left; (first | exact Nat.le_refl _ | ((try dsimp only); (try simp only [World.size_alloc, grow_size, World.size_setCell]); omega))))))⟩


end Go.Proofs.Ytcbniifpbcgamaa
