/- Layer 3: Same. -/
import Derived.Test.YtmlginnnhlmoeaaEncH
namespace Go.Proofs.Ytmlginnnhlmoeaa
set_option linter.unusedSimpArgs false
set_option linter.unusedVariables false
open Go.RowKit


def sameB (c d : Cap) : Bool := rightC c && (rightC d && decide (bytesC c = bytesC d))
theorem sameB_no1 {c d : Cap} (h : rightC c = false) : sameB c d = false := by simp [sameB, h]
theorem sameB_no2 {c d : Cap} (h : rightC d = false) : sameB c d = false := by simp [sameB, h]
theorem sameB_yes {c d : Cap} (h : rightC c = true) (h' : rightC d = true) : sameB c d = decide (bytesC c = bytesC d) := by simp [sameB, h, h']
theorem bytesC_byte {c : Cap} (h : rightC c = true) : byteL (bytesC c) := by
  intro n hn
  simp only [bytesC, rowB, four, List.flatMap_cons, List.flatMap_nil, List.append_nil, List.cons_append, List.nil_append, List.mem_cons, List.not_mem_nil, or_false] at hn
  rcases hn with rfl | rfl | rfl | rfl | rfl | rfl | rfl | rfl | rfl | rfl | rfl | rfl | rfl | rfl | rfl | rfl <;> omega
theorem bytesC_str {c d : Cap} (h : rightC c = true) (h' : rightC d = true) : ((strOf (bytesC c)).toList == (strOf (bytesC d)).toList) = decide (bytesC c = bytesC d) := str_beq (bytesC_byte h) (bytesC_byte h')
theorem bytesC_ne (c : Cap) (A : Option Addr) : bytesC c = [] → A = none := fun h => by
  have := congrArg List.length h
  simp [bytesC_length] at this
set_option maxRecDepth 100000 in
set_option maxHeartbeats 2000000 in
theorem same_no1 (t : Bool) (b tp a p ty : Int) (t' : Bool) (b' tp' a' p' ty' : Int) (w : World) (hr : rightC ⟨t, b, tp, a, p, ty⟩ = false) :
    Calls Try.prog 13 #[.agg #[.bool t, .int .i64 b, .int .i64 tp, .int .i64 a, .int .i64 p, .int .i64 ty], .agg #[.bool t', .int .i64 b', .int .i64 tp', .int .i64 a', .int .i64 p', .int .i64 ty']] w fun e w' => e = .returned (.bool false) ∧ Ext w w' := by
  go_enter Try.func13, Try.ntmps13
  go_wp2
  refine wp_region_step (.rd 0 (.ac 1 (.rd 2 (.rd 3 (.ac 4 (.rd 5 (.rd 6 (.rd 7 (.rd 9 (.ac 8 (.ac 10 (.ac 11 (.rd 12 (.rd 13 .done)))))))))))))) (by kernel_rfl) (by kernel_rfl) (fun _ _ d _ _ h => by cases d <;> exact h) (by simp only [Ord.map, nthOp, List.append]; rfl) ?_
  intro d0
  repeat' (first | (refine step_read (by rfl) (fun K hK => ?_); go_big_quiet_op; refine hK _ ?_; clear hK K) | (refine step_act (by rfl) (fun K hK => ?_); go_wp2_with (first | (go_at_call 20; refine (capRight _ _ _ _ _ _ _).mono ?_; rintro e w1 ⟨rfl, hy⟩; obtain ⟨d, rfl⟩ := hy.grown; clear hy)); refine ⟨_, (by repeat (first | (with_reducible exact Ext.refl _) | (with_reducible refine Ext.undrew ?_) | (with_reducible refine Ext.grow ?_ _) | (with_reducible refine Ext.drew ?_) | (with_reducible refine Ext.drewN ?_ _) | (with_reducible refine Ext.alloc ?_ _) | (with_reducible assumption) | ((with_reducible refine Ext.setCell ?_ ?_ _); rotate_left; (first | exact Nat.le_refl _ | ((try dsimp only); (try simp only [World.size_alloc, grow_size, World.size_setCell]); omega))))), Ext.refl _, ?_⟩) | refine step_br ?_ ?_ | (refine step_skip (by rfl) ?_; simp only [Act.put, List.setIfInBounds_toArray, List.set_cons_zero, List.set_cons_succ]) | (refine step_idle (by rfl) ?_; simp only [Act.put, List.setIfInBounds_toArray, List.set_cons_zero, List.set_cons_succ]))
  all_goals refine step_nil ?_
  go_wp2
  all_goals go_ret
  all_goals exact ⟨rfl, (by repeat (first | (with_reducible exact Ext.refl _) | (with_reducible refine Ext.undrew ?_) | (with_reducible refine Ext.grow ?_ _) | (with_reducible refine Ext.drew ?_) | (with_reducible refine Ext.drewN ?_ _) | (with_reducible refine Ext.alloc ?_ _) | (with_reducible assumption) | ((with_reducible refine Ext.setCell ?_ ?_ _); rotate_left; (first | exact Nat.le_refl _ | ((try dsimp only); (try simp only [World.size_alloc, grow_size, World.size_setCell]); omega)))))⟩

set_option maxRecDepth 100000 in
set_option maxHeartbeats 2000000 in
theorem same_no2 (t : Bool) (b tp a p ty : Int) (t' : Bool) (b' tp' a' p' ty' : Int) (w : World) (hr : rightC ⟨t, b, tp, a, p, ty⟩ = true) (hr' : rightC ⟨t', b', tp', a', p', ty'⟩ = false) :
    Calls Try.prog 13 #[.agg #[.bool t, .int .i64 b, .int .i64 tp, .int .i64 a, .int .i64 p, .int .i64 ty], .agg #[.bool t', .int .i64 b', .int .i64 tp', .int .i64 a', .int .i64 p', .int .i64 ty']] w fun e w' => e = .returned (.bool false) ∧ Ext w w' := by
  go_enter Try.func13, Try.ntmps13
  go_wp2
  refine wp_region_step (.rd 0 (.ac 1 (.rd 2 (.rd 3 (.ac 4 (.rd 5 (.rd 6 (.rd 7 (.rd 9 (.ac 8 (.ac 10 (.ac 11 (.rd 12 (.rd 13 .done)))))))))))))) (by kernel_rfl) (by kernel_rfl) (fun _ _ d _ _ h => by cases d <;> exact h) (by simp only [Ord.map, nthOp, List.append]; rfl) ?_
  intro d0
  repeat' (first | (refine step_read (by rfl) (fun K hK => ?_); go_big_quiet_op; refine hK _ ?_; clear hK K) | (refine step_act (by rfl) (fun K hK => ?_); go_wp2_with (first | (go_at_call 20; refine (capRight _ _ _ _ _ _ _).mono ?_; rintro e w1 ⟨rfl, hy⟩; obtain ⟨d, rfl⟩ := hy.grown; clear hy)); refine ⟨_, (by repeat (first | (with_reducible exact Ext.refl _) | (with_reducible refine Ext.undrew ?_) | (with_reducible refine Ext.grow ?_ _) | (with_reducible refine Ext.drew ?_) | (with_reducible refine Ext.drewN ?_ _) | (with_reducible refine Ext.alloc ?_ _) | (with_reducible assumption) | ((with_reducible refine Ext.setCell ?_ ?_ _); rotate_left; (first | exact Nat.le_refl _ | ((try dsimp only); (try simp only [World.size_alloc, grow_size, World.size_setCell]); omega))))), Ext.refl _, ?_⟩) | refine step_br ?_ ?_ | (refine step_skip (by rfl) ?_; simp only [Act.put, List.setIfInBounds_toArray, List.set_cons_zero, List.set_cons_succ]) | (refine step_idle (by rfl) ?_; simp only [Act.put, List.setIfInBounds_toArray, List.set_cons_zero, List.set_cons_succ]))
  all_goals refine step_nil ?_
  go_wp2
  all_goals go_ret
  all_goals exact ⟨rfl, (by repeat (first | (with_reducible exact Ext.refl _) | (with_reducible refine Ext.undrew ?_) | (with_reducible refine Ext.grow ?_ _) | (with_reducible refine Ext.drew ?_) | (with_reducible refine Ext.drewN ?_ _) | (with_reducible refine Ext.alloc ?_ _) | (with_reducible assumption) | ((with_reducible refine Ext.setCell ?_ ?_ _); rotate_left; (first | exact Nat.le_refl _ | ((try dsimp only); (try simp only [World.size_alloc, grow_size, World.size_setCell]); omega)))))⟩

set_option maxRecDepth 100000 in
set_option maxHeartbeats 4000000 in
theorem same_yes (t : Bool) (b tp a p ty : Int) (t' : Bool) (b' tp' a' p' ty' : Int) (w : World) (hr : rightC ⟨t, b, tp, a, p, ty⟩ = true) (hr' : rightC ⟨t', b', tp', a', p', ty'⟩ = true) :
    Calls Try.prog 13 #[.agg #[.bool t, .int .i64 b, .int .i64 tp, .int .i64 a, .int .i64 p, .int .i64 ty], .agg #[.bool t', .int .i64 b', .int .i64 tp', .int .i64 a', .int .i64 p', .int .i64 ty']] w fun e w' => e = .returned (.bool (decide (bytesC ⟨t, b, tp, a, p, ty⟩ = bytesC ⟨t', b', tp', a', p', ty'⟩))) ∧ Ext w w' := by
  rw [← bytesC_str hr hr']
  go_enter Try.func13, Try.ntmps13
  go_wp2
  refine wp_region_step (.rd 0 (.ac 1 (.rd 2 (.rd 3 (.ac 4 (.rd 5 (.rd 6 (.rd 7 (.rd 9 (.ac 8 (.ac 10 (.ac 11 (.rd 12 (.rd 13 .done)))))))))))))) (by kernel_rfl) (by kernel_rfl) (fun _ _ d _ _ h => by cases d <;> exact h) (by simp only [Ord.map, nthOp, List.append]; rfl) ?_
  intro d0
  repeat' (first | (refine step_read (by rfl) (fun K hK => ?_); go_big_quiet_op; refine hK _ ?_; clear hK K) | (refine step_act (by rfl) (fun K hK => ?_); go_wp2_with (first | (go_at_call 20; refine (capRight _ _ _ _ _ _ _).mono ?_; rintro e w1 ⟨rfl, hy⟩; obtain ⟨d, rfl⟩ := hy.grown; clear hy) | (go_at_call 11; refine Calls.mono (put_yes _ _ _ _ _ _ _ (by assumption)) ?_; rintro e w' ⟨q, ca, rfl, hl, hm, hq, hrd, hy⟩; obtain ⟨d, rfl⟩ := hy.grown; clear hy; have HR := hid hrd; clear hrd) | (go_at_call 23; refine Calls.mono (equal_ _ _ 16 16 _ _ (bytesC _) (bytesC _) _ (RdB.ext (Hid.out (by assumption)) (by repeat (first | (with_reducible exact Ext.refl _) | (with_reducible refine Ext.undrew ?_) | (with_reducible refine Ext.grow ?_ _) | (with_reducible refine Ext.drew ?_) | (with_reducible refine Ext.drewN ?_ _) | (with_reducible refine Ext.alloc ?_ _) | (with_reducible assumption) | ((with_reducible refine Ext.setCell ?_ ?_ _); rotate_left; (first | exact Nat.le_refl _ | ((try dsimp only); (try simp only [World.size_alloc, grow_size, World.size_setCell]); omega)))))) (RdB.ext (Hid.out (by assumption)) (by repeat (first | (with_reducible exact Ext.refl _) | (with_reducible refine Ext.undrew ?_) | (with_reducible refine Ext.grow ?_ _) | (with_reducible refine Ext.drew ?_) | (with_reducible refine Ext.drewN ?_ _) | (with_reducible refine Ext.alloc ?_ _) | (with_reducible assumption) | ((with_reducible refine Ext.setCell ?_ ?_ _); rotate_left; (first | exact Nat.le_refl _ | ((try dsimp only); (try simp only [World.size_alloc, grow_size, World.size_setCell]); omega)))))) (bytesC_ne _ _) (bytesC_ne _ _) rfl rfl) ?_; rintro e w' ⟨rfl, rfl⟩)); refine ⟨_, (by repeat (first | (with_reducible exact Ext.refl _) | (with_reducible refine Ext.undrew ?_) | (with_reducible refine Ext.grow ?_ _) | (with_reducible refine Ext.drew ?_) | (with_reducible refine Ext.drewN ?_ _) | (with_reducible refine Ext.alloc ?_ _) | (with_reducible assumption) | ((with_reducible refine Ext.setCell ?_ ?_ _); rotate_left; (first | exact Nat.le_refl _ | ((try dsimp only); (try simp only [World.size_alloc, grow_size, World.size_setCell]); omega))))), Ext.refl _, ?_⟩) | refine step_br ?_ ?_ | (refine step_skip (by rfl) ?_; simp only [Act.put, List.setIfInBounds_toArray, List.set_cons_zero, List.set_cons_succ]) | (refine step_idle (by rfl) ?_; simp only [Act.put, List.setIfInBounds_toArray, List.set_cons_zero, List.set_cons_succ]))
  all_goals refine step_nil ?_
  go_wp2
  all_goals go_ret
  all_goals exact ⟨rfl, (by repeat (first | (with_reducible exact Ext.refl _) | (with_reducible refine Ext.undrew ?_) | (with_reducible refine Ext.grow ?_ _) | (with_reducible refine Ext.drew ?_) | (with_reducible refine Ext.drewN ?_ _) | (with_reducible refine Ext.alloc ?_ _) | (with_reducible assumption) | ((with_reducible refine Ext.setCell ?_ ?_ _); rotate_left; (first | exact Nat.le_refl _ | ((try dsimp only); (try simp only [World.size_alloc, grow_size, World.size_setCell]); omega)))))⟩


end Go.Proofs.Ytmlginnnhlmoeaa
