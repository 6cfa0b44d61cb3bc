/- Layer 15: the document's kinds. -/
import Derived.Test.YtcbniifpbcgamaaCodB
import Derived.Test.YtcbniifpbcgamaaStep
namespace Go.Proofs.Ytcbniifpbcgamaa
set_option linter.unusedSimpArgs false
set_option linter.unusedVariables false
open Go.RowKit

set_option maxHeartbeats 2000000 in
theorem fine_ (ch : Nat) (n : Int) (w : World) :
    Calls Try.prog 24 #[.int .u8 ch, .int .i64 n] w fun e w' => e = .returned (.bool (hasV (loOf ch) (hiOf ch) n)) ∧ w = w' := by
  by_cases h1 : ch = 114
  · subst h1
    have e : hasV (loOf 114) (hiOf 114) n = (decide (0 ≤ n) && decide (n ≤ 7)) := rfl
    rw [e]
    clear e
    by_cases g1 : 0 ≤ n <;> by_cases g2 : n ≤ 7
    all_goals simp only [g1, g2, decide_true, decide_false, Bool.and_true, Bool.true_and, Bool.and_false, Bool.false_and]
    all_goals (go_enter Try.func24, Try.ntmps24; go_wp2)
    all_goals go_ret
    all_goals exact ⟨by first | rfl | (simp; omega), rfl⟩
  · by_cases h2 : ch = 105
    · subst h2
      have e : hasV (loOf 105) (hiOf 105) n = (decide (0 ≤ n) && decide (n ≤ 255)) := rfl
      rw [e]
      clear e
      by_cases g1 : 0 ≤ n <;> by_cases g2 : n ≤ 255
      all_goals simp only [g1, g2, decide_true, decide_false, Bool.and_true, Bool.true_and, Bool.and_false, Bool.false_and]
      all_goals (go_enter Try.func24, Try.ntmps24; go_wp2)
      all_goals go_ret
      all_goals exact ⟨by first | rfl | (simp; omega), rfl⟩
    · by_cases h3 : ch = 119
      · subst h3
        have e : hasV (loOf 119) (hiOf 119) n = (decide (-32768 ≤ n) && decide (n ≤ 32767)) := rfl
        rw [e]
        clear e
        by_cases g1 : -32768 ≤ n <;> by_cases g2 : n ≤ 32767
        all_goals simp only [g1, g2, decide_true, decide_false, Bool.and_true, Bool.true_and, Bool.and_false, Bool.false_and]
        all_goals (go_enter Try.func24, Try.ntmps24; go_wp2)
        all_goals go_ret
        all_goals exact ⟨by first | rfl | (simp; omega), rfl⟩
      · have e : loOf ch = 0 ∧ hiOf ch = 0 := by unfold loOf hiOf; simp [h1, h2, h3]
        rw [e.1, e.2, fZ_has]
        unfold fZ
        have e1 : ((ch : Int) == 114) = false := by simp; omega
        have e2 : ((ch : Int) == 105) = false := by simp; omega
        have e3 : ((ch : Int) == 119) = false := by simp; omega
        clear e h1 h2 h3
        go_enter Try.func24, Try.ntmps24
        go_wp2
        go_ret
        exact ⟨rfl, rfl⟩

theorem empties (s : ByteArray) : s.toList.isEmpty = decide (s.size = 0) := by
  rw [ByteArray.toList_eq]
  by_cases h0 : s.size = 0
  · have e : s.data.toList = [] := by
      apply List.eq_nil_of_length_eq_zero
      simpa using h0
    rw [e]
    simp [h0]
  · have e : ¬ s.data.toList = [] := fun e => h0 (by have := congrArg List.length e; simpa using this)
    simp only [h0, decide_false, List.isEmpty_eq_false_iff]
    exact e
theorem index_str (s : ByteArray) (i : Nat) (h : i < s.size) (w : World) : (Instr.index 9 (.string s) (.int .i64 (i : Int))).run Try.prog w = .ok (.int .u8 (chAt s i)) w := by
  rw [← chAt_get h]
  simp [Instr.index, go_sem, h]
set_option maxRecDepth 100000 in
set_option maxHeartbeats 8000000 in
theorem rright (op a b c : Int) (w : World) :
    Calls Try.prog 18 #[.agg #[.int .i64 op, .int .i64 a, .int .i64 b, .int .i64 c]] w fun e w' => e = .returned (.bool (rightI op a b c)) ∧ Ext w w' := by
  have hR := rightS_kstr op a b c
  have hs3 : (kstr (kd op)).size = 0 ∨ (kstr (kd op)).size = 3 := by have := kstr_size ⟨kd op, kd_lt op⟩; simp only at this; split at this <;> omega
  have hK := fun w => rkinds op w
  generalize kstr (kd op) = s at hR hs3 hK
  rw [← hR]
  have HK := hid hK
  clear hR hK
  rcases hs3 with hs | hs
  · have e : rightS s (v3 a b c) = false := by unfold rightS; rw [hs]; rfl
    rw [e]
    have he : (!s.toList.isEmpty) = false := by rw [empties, hs]; rfl
    clear e hs
    go_enter Try.func18, Try.ntmps18
    go_wp2_with (go_at_call 16; refine (HK.out _).mono ?_; rintro e w1 ⟨rfl, rfl⟩)
    refine wp_region_step (.rd 0 (.rd 1 (.rd 2 (.rd 3 (.rd 4 (.rd 5 (.rd 6 (.ac 7 (.rd 8 (.rd 9 (.rd 10 (.rd 11 (.rd 12 (.rd 13 (.ac 14 (.rd 15 (.rd 16 (.rd 17 (.rd 18 (.rd 19 (.rd 20 (.ac 21 (.rd 22 (.rd 23 .done)))))))))))))))))))))))) (by kernel_rfl) (by kernel_rfl) (fun _ _ d _ _ h => by cases d <;> exact h) (by simp only [Ord.map, nthOp, List.append]; rfl) ?_
    intro d0
    repeat' (first | (refine step_read (by rfl) (fun K hK => ?_); go_big_quiet_op; refine hK _ ?_; clear hK K) | (refine step_act (by rfl) (fun K hK => ?_); go_wp2_with (first | (go_at_call 24; with_reducible refine Calls.mono (fine_ (chAt s 0) a _) ?_; rw [show hasV (loOf (chAt s 0)) (hiOf (chAt s 0)) a = okAt s (v3 a b c) 0 from rfl, HB0.out]; rintro e w1 ⟨rfl, rfl⟩) | (go_at_call 24; with_reducible refine Calls.mono (fine_ (chAt s 1) b _) ?_; rw [show hasV (loOf (chAt s 1)) (hiOf (chAt s 1)) b = okAt s (v3 a b c) 1 from rfl, HB1.out]; rintro e w1 ⟨rfl, rfl⟩) | (go_at_call 24; with_reducible refine Calls.mono (fine_ (chAt s 2) c _) ?_; rw [show hasV (loOf (chAt s 2)) (hiOf (chAt s 2)) c = okAt s (v3 a b c) 2 from rfl, HB2.out]; rintro e w1 ⟨rfl, rfl⟩)); refine ⟨_, Ext.refl _, (by repeat (first | (with_reducible exact Ext.refl _) | (with_reducible refine Ext.undrew ?_) | (with_reducible refine Ext.grow ?_ _) | (with_reducible refine Ext.drew ?_) | (with_reducible refine Ext.drewN ?_ _) | (with_reducible refine Ext.alloc ?_ _) | (with_reducible assumption) | ((with_reducible refine Ext.setCell ?_ ?_ _); rotate_left; (first | exact Nat.le_refl _ | ((try dsimp only); (try simp only [World.size_alloc, grow_size, World.size_setCell]); omega))))), ?_⟩) | refine step_br ?_ ?_ | (refine step_skip (by rfl) ?_; simp only [Act.put, List.setIfInBounds_toArray, List.set_cons_zero, List.set_cons_succ]) | (refine step_idle (by rfl) ?_; simp only [Act.put, List.setIfInBounds_toArray, List.set_cons_zero, List.set_cons_succ]))
    all_goals refine step_nil ?_
    all_goals go_wp2
    all_goals go_ret
    all_goals exact ⟨rfl, (by repeat (first | (with_reducible exact Ext.refl _) | (with_reducible refine Ext.undrew ?_) | (with_reducible refine Ext.grow ?_ _) | (with_reducible refine Ext.drew ?_) | (with_reducible refine Ext.drewN ?_ _) | (with_reducible refine Ext.alloc ?_ _) | (with_reducible assumption) | ((with_reducible refine Ext.setCell ?_ ?_ _); rotate_left; (first | exact Nat.le_refl _ | ((try dsimp only); (try simp only [World.size_alloc, grow_size, World.size_setCell]); omega)))))⟩
  · have hA := all3 s hs (v3 a b c)
    have he : (!s.toList.isEmpty) = true := by rw [empties, hs]; rfl
    rw [hA]
    clear hA
    cases hB0 : okAt s (v3 a b c) 0 with
    | false =>
      simp only [Bool.false_and]
      have HR := hid (rfl : True = True)
      have HB0 := hid hB0
      clear hB0
      have i0 : ∀ w, (Instr.index 9 (.string s) (.int .i64 0)).run Try.prog w = .ok (.int .u8 (chAt s 0)) w := index_str s 0 (by omega)
      have i1 : ∀ w, (Instr.index 9 (.string s) (.int .i64 1)).run Try.prog w = .ok (.int .u8 (chAt s 1)) w := index_str s 1 (by omega)
      have i2 : ∀ w, (Instr.index 9 (.string s) (.int .i64 2)).run Try.prog w = .ok (.int .u8 (chAt s 2)) w := index_str s 2 (by omega)
      clear hs
      go_enter Try.func18, Try.ntmps18
      go_wp2_with (go_at_call 16; refine (HK.out _).mono ?_; rintro e w1 ⟨rfl, rfl⟩)
      refine wp_region_step (.rd 0 (.rd 1 (.rd 2 (.rd 3 (.rd 4 (.rd 5 (.rd 6 (.ac 7 (.rd 8 (.rd 9 (.rd 10 (.rd 11 (.rd 12 (.rd 13 (.ac 14 (.rd 15 (.rd 16 (.rd 17 (.rd 18 (.rd 19 (.rd 20 (.ac 21 (.rd 22 (.rd 23 .done)))))))))))))))))))))))) (by kernel_rfl) (by kernel_rfl) (fun _ _ d _ _ h => by cases d <;> exact h) (by simp only [Ord.map, nthOp, List.append]; rfl) ?_
      intro d0
      repeat' (first | (refine step_read (by rfl) (fun K hK => ?_); go_big_quiet_op; refine hK _ ?_; clear hK K) | (refine step_act (by rfl) (fun K hK => ?_); go_wp2_with (first | (go_at_call 24; with_reducible refine Calls.mono (fine_ (chAt s 0) a _) ?_; rw [show hasV (loOf (chAt s 0)) (hiOf (chAt s 0)) a = okAt s (v3 a b c) 0 from rfl, HB0.out]; rintro e w1 ⟨rfl, rfl⟩) | (go_at_call 24; with_reducible refine Calls.mono (fine_ (chAt s 1) b _) ?_; rw [show hasV (loOf (chAt s 1)) (hiOf (chAt s 1)) b = okAt s (v3 a b c) 1 from rfl, HB1.out]; rintro e w1 ⟨rfl, rfl⟩) | (go_at_call 24; with_reducible refine Calls.mono (fine_ (chAt s 2) c _) ?_; rw [show hasV (loOf (chAt s 2)) (hiOf (chAt s 2)) c = okAt s (v3 a b c) 2 from rfl, HB2.out]; rintro e w1 ⟨rfl, rfl⟩)); refine ⟨_, Ext.refl _, (by repeat (first | (with_reducible exact Ext.refl _) | (with_reducible refine Ext.undrew ?_) | (with_reducible refine Ext.grow ?_ _) | (with_reducible refine Ext.drew ?_) | (with_reducible refine Ext.drewN ?_ _) | (with_reducible refine Ext.alloc ?_ _) | (with_reducible assumption) | ((with_reducible refine Ext.setCell ?_ ?_ _); rotate_left; (first | exact Nat.le_refl _ | ((try dsimp only); (try simp only [World.size_alloc, grow_size, World.size_setCell]); omega))))), ?_⟩) | refine step_br ?_ ?_ | (refine step_skip (by rfl) ?_; simp only [Act.put, List.setIfInBounds_toArray, List.set_cons_zero, List.set_cons_succ]) | (refine step_idle (by rfl) ?_; simp only [Act.put, List.setIfInBounds_toArray, List.set_cons_zero, List.set_cons_succ]))
      all_goals refine step_nil ?_
      all_goals go_wp2
      all_goals go_ret
      all_goals exact ⟨by first | rfl | (rw [HR.out]; rfl), (by repeat (first | (with_reducible exact Ext.refl _) | (with_reducible refine Ext.undrew ?_) | (with_reducible refine Ext.grow ?_ _) | (with_reducible refine Ext.drew ?_) | (with_reducible refine Ext.drewN ?_ _) | (with_reducible refine Ext.alloc ?_ _) | (with_reducible assumption) | ((with_reducible refine Ext.setCell ?_ ?_ _); rotate_left; (first | exact Nat.le_refl _ | ((try dsimp only); (try simp only [World.size_alloc, grow_size, World.size_setCell]); omega)))))⟩
    | true =>
      cases hB1 : okAt s (v3 a b c) 1 with
      | false =>
        simp only [Bool.false_and, Bool.and_false]
        have HR := hid (rfl : True = True)
        have HB0 := hid hB0
        clear hB0
        have HB1 := hid hB1
        clear hB1
        have i0 : ∀ w, (Instr.index 9 (.string s) (.int .i64 0)).run Try.prog w = .ok (.int .u8 (chAt s 0)) w := index_str s 0 (by omega)
        have i1 : ∀ w, (Instr.index 9 (.string s) (.int .i64 1)).run Try.prog w = .ok (.int .u8 (chAt s 1)) w := index_str s 1 (by omega)
        have i2 : ∀ w, (Instr.index 9 (.string s) (.int .i64 2)).run Try.prog w = .ok (.int .u8 (chAt s 2)) w := index_str s 2 (by omega)
        clear hs
        go_enter Try.func18, Try.ntmps18
        go_wp2_with (go_at_call 16; refine (HK.out _).mono ?_; rintro e w1 ⟨rfl, rfl⟩)
        refine wp_region_step (.rd 0 (.rd 1 (.rd 2 (.rd 3 (.rd 4 (.rd 5 (.rd 6 (.ac 7 (.rd 8 (.rd 9 (.rd 10 (.rd 11 (.rd 12 (.rd 13 (.ac 14 (.rd 15 (.rd 16 (.rd 17 (.rd 18 (.rd 19 (.rd 20 (.ac 21 (.rd 22 (.rd 23 .done)))))))))))))))))))))))) (by kernel_rfl) (by kernel_rfl) (fun _ _ d _ _ h => by cases d <;> exact h) (by simp only [Ord.map, nthOp, List.append]; rfl) ?_
        intro d0
        repeat' (first | (refine step_read (by rfl) (fun K hK => ?_); go_big_quiet_op; refine hK _ ?_; clear hK K) | (refine step_act (by rfl) (fun K hK => ?_); go_wp2_with (first | (go_at_call 24; with_reducible refine Calls.mono (fine_ (chAt s 0) a _) ?_; rw [show hasV (loOf (chAt s 0)) (hiOf (chAt s 0)) a = okAt s (v3 a b c) 0 from rfl, HB0.out]; rintro e w1 ⟨rfl, rfl⟩) | (go_at_call 24; with_reducible refine Calls.mono (fine_ (chAt s 1) b _) ?_; rw [show hasV (loOf (chAt s 1)) (hiOf (chAt s 1)) b = okAt s (v3 a b c) 1 from rfl, HB1.out]; rintro e w1 ⟨rfl, rfl⟩) | (go_at_call 24; with_reducible refine Calls.mono (fine_ (chAt s 2) c _) ?_; rw [show hasV (loOf (chAt s 2)) (hiOf (chAt s 2)) c = okAt s (v3 a b c) 2 from rfl, HB2.out]; rintro e w1 ⟨rfl, rfl⟩)); refine ⟨_, Ext.refl _, (by repeat (first | (with_reducible exact Ext.refl _) | (with_reducible refine Ext.undrew ?_) | (with_reducible refine Ext.grow ?_ _) | (with_reducible refine Ext.drew ?_) | (with_reducible refine Ext.drewN ?_ _) | (with_reducible refine Ext.alloc ?_ _) | (with_reducible assumption) | ((with_reducible refine Ext.setCell ?_ ?_ _); rotate_left; (first | exact Nat.le_refl _ | ((try dsimp only); (try simp only [World.size_alloc, grow_size, World.size_setCell]); omega))))), ?_⟩) | refine step_br ?_ ?_ | (refine step_skip (by rfl) ?_; simp only [Act.put, List.setIfInBounds_toArray, List.set_cons_zero, List.set_cons_succ]) | (refine step_idle (by rfl) ?_; simp only [Act.put, List.setIfInBounds_toArray, List.set_cons_zero, List.set_cons_succ]))
        all_goals refine step_nil ?_
        all_goals go_wp2
        all_goals go_ret
        all_goals exact ⟨by first | rfl | (rw [HR.out]; rfl), (by repeat (first | (with_reducible exact Ext.refl _) | (with_reducible refine Ext.undrew ?_) | (with_reducible refine Ext.grow ?_ _) | (with_reducible refine Ext.drew ?_) | (with_reducible refine Ext.drewN ?_ _) | (with_reducible refine Ext.alloc ?_ _) | (with_reducible assumption) | ((with_reducible refine Ext.setCell ?_ ?_ _); rotate_left; (first | exact Nat.le_refl _ | ((try dsimp only); (try simp only [World.size_alloc, grow_size, World.size_setCell]); omega)))))⟩
      | true =>
        cases hB2 : okAt s (v3 a b c) 2 with
        | false =>
          simp only [Bool.and_false]
          have HR := hid (rfl : True = True)
          have HB0 := hid hB0
          clear hB0
          have HB1 := hid hB1
          clear hB1
          have HB2 := hid hB2
          clear hB2
          have i0 : ∀ w, (Instr.index 9 (.string s) (.int .i64 0)).run Try.prog w = .ok (.int .u8 (chAt s 0)) w := index_str s 0 (by omega)
          have i1 : ∀ w, (Instr.index 9 (.string s) (.int .i64 1)).run Try.prog w = .ok (.int .u8 (chAt s 1)) w := index_str s 1 (by omega)
          have i2 : ∀ w, (Instr.index 9 (.string s) (.int .i64 2)).run Try.prog w = .ok (.int .u8 (chAt s 2)) w := index_str s 2 (by omega)
          clear hs
          go_enter Try.func18, Try.ntmps18
          go_wp2_with (go_at_call 16; refine (HK.out _).mono ?_; rintro e w1 ⟨rfl, rfl⟩)
          refine wp_region_step (.rd 0 (.rd 1 (.rd 2 (.rd 3 (.rd 4 (.rd 5 (.rd 6 (.ac 7 (.rd 8 (.rd 9 (.rd 10 (.rd 11 (.rd 12 (.rd 13 (.ac 14 (.rd 15 (.rd 16 (.rd 17 (.rd 18 (.rd 19 (.rd 20 (.ac 21 (.rd 22 (.rd 23 .done)))))))))))))))))))))))) (by kernel_rfl) (by kernel_rfl) (fun _ _ d _ _ h => by cases d <;> exact h) (by simp only [Ord.map, nthOp, List.append]; rfl) ?_
          intro d0
          repeat' (first | (refine step_read (by rfl) (fun K hK => ?_); go_big_quiet_op; refine hK _ ?_; clear hK K) | (refine step_act (by rfl) (fun K hK => ?_); go_wp2_with (first | (go_at_call 24; with_reducible refine Calls.mono (fine_ (chAt s 0) a _) ?_; rw [show hasV (loOf (chAt s 0)) (hiOf (chAt s 0)) a = okAt s (v3 a b c) 0 from rfl, HB0.out]; rintro e w1 ⟨rfl, rfl⟩) | (go_at_call 24; with_reducible refine Calls.mono (fine_ (chAt s 1) b _) ?_; rw [show hasV (loOf (chAt s 1)) (hiOf (chAt s 1)) b = okAt s (v3 a b c) 1 from rfl, HB1.out]; rintro e w1 ⟨rfl, rfl⟩) | (go_at_call 24; with_reducible refine Calls.mono (fine_ (chAt s 2) c _) ?_; rw [show hasV (loOf (chAt s 2)) (hiOf (chAt s 2)) c = okAt s (v3 a b c) 2 from rfl, HB2.out]; rintro e w1 ⟨rfl, rfl⟩)); refine ⟨_, Ext.refl _, (by repeat (first | (with_reducible exact Ext.refl _) | (with_reducible refine Ext.undrew ?_) | (with_reducible refine Ext.grow ?_ _) | (with_reducible refine Ext.drew ?_) | (with_reducible refine Ext.drewN ?_ _) | (with_reducible refine Ext.alloc ?_ _) | (with_reducible assumption) | ((with_reducible refine Ext.setCell ?_ ?_ _); rotate_left; (first | exact Nat.le_refl _ | ((try dsimp only); (try simp only [World.size_alloc, grow_size, World.size_setCell]); omega))))), ?_⟩) | refine step_br ?_ ?_ | (refine step_skip (by rfl) ?_; simp only [Act.put, List.setIfInBounds_toArray, List.set_cons_zero, List.set_cons_succ]) | (refine step_idle (by rfl) ?_; simp only [Act.put, List.setIfInBounds_toArray, List.set_cons_zero, List.set_cons_succ]))
          all_goals refine step_nil ?_
          all_goals go_wp2
          all_goals go_ret
          all_goals exact ⟨by first | rfl | (rw [HR.out]; rfl), (by repeat (first | (with_reducible exact Ext.refl _) | (with_reducible refine Ext.undrew ?_) | (with_reducible refine Ext.grow ?_ _) | (with_reducible refine Ext.drew ?_) | (with_reducible refine Ext.drewN ?_ _) | (with_reducible refine Ext.alloc ?_ _) | (with_reducible assumption) | ((with_reducible refine Ext.setCell ?_ ?_ _); rotate_left; (first | exact Nat.le_refl _ | ((try dsimp only); (try simp only [World.size_alloc, grow_size, World.size_setCell]); omega)))))⟩
        | true =>
          simp only [Bool.and_true]
          have HR := hid (rfl : True = True)
          have HB0 := hid hB0
          clear hB0
          have HB1 := hid hB1
          clear hB1
          have HB2 := hid hB2
          clear hB2
          have i0 : ∀ w, (Instr.index 9 (.string s) (.int .i64 0)).run Try.prog w = .ok (.int .u8 (chAt s 0)) w := index_str s 0 (by omega)
          have i1 : ∀ w, (Instr.index 9 (.string s) (.int .i64 1)).run Try.prog w = .ok (.int .u8 (chAt s 1)) w := index_str s 1 (by omega)
          have i2 : ∀ w, (Instr.index 9 (.string s) (.int .i64 2)).run Try.prog w = .ok (.int .u8 (chAt s 2)) w := index_str s 2 (by omega)
          clear hs
          go_enter Try.func18, Try.ntmps18
          go_wp2_with (go_at_call 16; refine (HK.out _).mono ?_; rintro e w1 ⟨rfl, rfl⟩)
          refine wp_region_step (.rd 0 (.rd 1 (.rd 2 (.rd 3 (.rd 4 (.rd 5 (.rd 6 (.ac 7 (.rd 8 (.rd 9 (.rd 10 (.rd 11 (.rd 12 (.rd 13 (.ac 14 (.rd 15 (.rd 16 (.rd 17 (.rd 18 (.rd 19 (.rd 20 (.ac 21 (.rd 22 (.rd 23 .done)))))))))))))))))))))))) (by kernel_rfl) (by kernel_rfl) (fun _ _ d _ _ h => by cases d <;> exact h) (by simp only [Ord.map, nthOp, List.append]; rfl) ?_
          intro d0
          repeat' (first | (refine step_read (by rfl) (fun K hK => ?_); go_big_quiet_op; refine hK _ ?_; clear hK K) | (refine step_act (by rfl) (fun K hK => ?_); go_wp2_with (first | (go_at_call 24; with_reducible refine Calls.mono (fine_ (chAt s 0) a _) ?_; rw [show hasV (loOf (chAt s 0)) (hiOf (chAt s 0)) a = okAt s (v3 a b c) 0 from rfl, HB0.out]; rintro e w1 ⟨rfl, rfl⟩) | (go_at_call 24; with_reducible refine Calls.mono (fine_ (chAt s 1) b _) ?_; rw [show hasV (loOf (chAt s 1)) (hiOf (chAt s 1)) b = okAt s (v3 a b c) 1 from rfl, HB1.out]; rintro e w1 ⟨rfl, rfl⟩) | (go_at_call 24; with_reducible refine Calls.mono (fine_ (chAt s 2) c _) ?_; rw [show hasV (loOf (chAt s 2)) (hiOf (chAt s 2)) c = okAt s (v3 a b c) 2 from rfl, HB2.out]; rintro e w1 ⟨rfl, rfl⟩)); refine ⟨_, Ext.refl _, (by repeat (first | (with_reducible exact Ext.refl _) | (with_reducible refine Ext.undrew ?_) | (with_reducible refine Ext.grow ?_ _) | (with_reducible refine Ext.drew ?_) | (with_reducible refine Ext.drewN ?_ _) | (with_reducible refine Ext.alloc ?_ _) | (with_reducible assumption) | ((with_reducible refine Ext.setCell ?_ ?_ _); rotate_left; (first | exact Nat.le_refl _ | ((try dsimp only); (try simp only [World.size_alloc, grow_size, World.size_setCell]); omega))))), ?_⟩) | refine step_br ?_ ?_ | (refine step_skip (by rfl) ?_; simp only [Act.put, List.setIfInBounds_toArray, List.set_cons_zero, List.set_cons_succ]) | (refine step_idle (by rfl) ?_; simp only [Act.put, List.setIfInBounds_toArray, List.set_cons_zero, List.set_cons_succ]))
          all_goals refine step_nil ?_
          all_goals go_wp2
          all_goals go_ret
          all_goals exact ⟨by first | rfl | (rw [HR.out]; rfl), (by repeat (first | (with_reducible exact Ext.refl _) | (with_reducible refine Ext.undrew ?_) | (with_reducible refine Ext.grow ?_ _) | (with_reducible refine Ext.drew ?_) | (with_reducible refine Ext.drewN ?_ _) | (with_reducible refine Ext.alloc ?_ _) | (with_reducible assumption) | ((with_reducible refine Ext.setCell ?_ ?_ _); rotate_left; (first | exact Nat.le_refl _ | ((try dsimp only); (try simp only [World.size_alloc, grow_size, World.size_setCell]); omega)))))⟩


end Go.Proofs.Ytcbniifpbcgamaa
