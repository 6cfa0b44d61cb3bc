/- Layer 3: Put. -/
import Derived.Test.YtgpeabbbeidhpaaEncA
import Derived.Test.YtgpeabbbeidhpaaRef2
namespace Go.Proofs.Ytgpeabbbeidhpaa
set_option linter.unusedSimpArgs false
set_option linter.unusedVariables false
open Go.RowKit

set_option maxHeartbeats 400000 in
theorem put_no (t : Bool) (b tp a p ty : Int) (w : World) (hr : rightC ⟨t, b, tp, a, p, ty⟩ = false) :
    Calls Try.prog 38 #[.agg #[.bool t, .int .i64 b, .int .i64 tp, .int .i64 a, .int .i64 p, .int .i64 ty]] w fun e w' => e = .returned (.slice none 0 0) ∧ Ext w w' := by
  go_enter Try.func38, Try.ntmps38
  go_wp2_with (go_at_call 36; refine (capRight _ _ _ _ _ _ _).mono ?_; rintro e w1 ⟨rfl, hy⟩; obtain ⟨d, rfl⟩ := hy.grown; clear hy)
  all_goals go_ret
  all_goals exact ⟨rfl, (by repeat (first | (with_reducible exact Ext.refl _) | (with_reducible refine Ext.undrew ?_) | (with_reducible refine Ext.grow ?_ _) | (with_reducible refine Ext.drew ?_) | (with_reducible refine Ext.drewN ?_ _) | (with_reducible refine Ext.alloc ?_ _) | (with_reducible assumption) | ((with_reducible refine Ext.setCell ?_ ?_ _); rotate_left; (first | exact Nat.le_refl _ | ((try dsimp only); (try simp only [World.size_alloc, grow_size, World.size_setCell]); omega)))))⟩

set_option maxRecDepth 100000 in
set_option maxHeartbeats 4000000 in
theorem put_yes (t : Bool) (b tp a p ty : Int) (w : World) (hr : rightC ⟨t, b, tp, a, p, ty⟩ = true) :
    Calls Try.prog 38 #[.agg #[.bool t, .int .i64 b, .int .i64 tp, .int .i64 a, .int .i64 p, .int .i64 ty]] w fun e w' => ∃ q ca, e = .returned (.slice (some ⟨q, 0, none⟩) 16 ca) ∧ 16 ≤ ca ∧ ca ≤ maxLen ∧ w.heap.size ≤ q ∧ RdB w' (some ⟨q, 0, none⟩) (bytesC ⟨t, b, tp, a, p, ty⟩) ∧ Ext w w' := by
  obtain ⟨i0, hi, hz0, hz1, hz2⟩ := info_parts info_u8
  have HI := hid hi
  go_enter Try.func38, Try.ntmps38
  go_wp2_with (go_at_call 36; refine (capRight _ _ _ _ _ _ _).mono ?_; rintro e w1 ⟨rfl, hy⟩; obtain ⟨d, rfl⟩ := hy.grown; clear hy)
  refine wp_region_chain (.rd 0 (.rd 1 (.rd 2 (.rd 3 (.rd 4 (.rd 5 (.rd 8 (.rd 9 (.rd 10 (.rd 11 (.rd 12 (.rd 13 (.br 6 (.br 7 (.ac 14 (.ac 15 (.rd 16 .done))) 14 (.ac 7 (.ac 15 (.rd 16 .done)))) 14 (.ac 6 (.ac 7 (.ac 15 (.rd 16 .done))))))))))))))))) (by kernel_rfl) (by kernel_rfl) (fun _ _ d _ _ h => by cases d <;> exact h) (by simp only [Ord.map, nthOp, List.append]; rfl) ?_
  repeat' (first | (refine chain_read (by rfl) (fun K hK => ?_); go_big_quiet_op; refine hK _ ?_; clear hK K) | (refine chain_act (by rfl) (fun K hK => ?_); go_wp2_with (go_at_call 50; refine Calls.mono (row_ _ _ [a, b, tp] _ (by intro _; refine ⟨_, _, rfl, by simp [go_sem], fun j hj => ?_⟩; have hj3 : j = 0 ∨ j = 1 ∨ j = 2 := (by have h := hj; simp only [List.length_map, List.length_cons, List.length_nil] at h; omega); rcases hj3 with rfl | rfl | rfl <;> simp [go_sem]) (by simp)) ?_; rintro e w' ⟨v, rfl, hv, hy⟩; obtain ⟨d2, rfl⟩ := hy.grown; clear hy; have hv := hid hv); refine ⟨(by repeat (first | (with_reducible exact Ext.refl _) | (with_reducible refine Ext.undrew ?_) | (with_reducible refine Ext.grow ?_ _) | (with_reducible refine Ext.drew ?_) | (with_reducible refine Ext.drewN ?_ _) | (with_reducible refine Ext.alloc ?_ _) | (with_reducible assumption) | ((with_reducible refine Ext.setCell ?_ ?_ _); rotate_left; (first | exact Nat.le_refl _ | ((try dsimp only); (try simp only [World.size_alloc, grow_size, World.size_setCell]); omega))))), ?_⟩) | refine chain_br ?_ ?_)
  all_goals (refine chain_act (by rfl) (fun K hK => ?_); refine wp_append_own _ (.tmp 13) (.tmp 20) 29 rfl (Go.Proofs.Ytgpeabbbeidhpaa.grow (w.alloc (.cells #[.bool t, .int .i64 b, .int .i64 tp, .int .i64 a, .int .i64 p, .int .i64 ty] 31)) d).heap.size 5 i0 _ 1 1 Try.underlying29 hi hz0 hz1 hz2 rfl (by decide) _ _ _ rfl (OwnB.rebase (OwnB.keptExt hv.out (by repeat (first | (with_reducible exact Ext.refl _) | (with_reducible refine Ext.undrew ?_) | (with_reducible refine Ext.grow ?_ _) | (with_reducible refine Ext.drew ?_) | (with_reducible refine Ext.drewN ?_ _) | (with_reducible refine Ext.alloc ?_ _) | (with_reducible assumption) | ((with_reducible refine Ext.setCell ?_ ?_ _); rotate_left; (first | exact Nat.le_refl _ | ((try dsimp only); (try simp only [World.size_alloc, grow_size, World.size_setCell]); omega)))))) (by simp only [World.size_alloc, grow_size, World.size_drew]; omega)) _ 4 4 (bvals [0, p % 256, 0, ty % 256]) rfl rfl (by intro j u hj; rw [Addr.add_lit]; have hj4 : j = 0 ∨ j = 1 ∨ j = 2 ∨ j = 3 := (by have h := (List.getElem?_eq_some_iff.1 hj).1; simp only [bvals, List.length_map, List.length_cons, List.length_nil] at h; omega); rcases hj4 with rfl | rfl | rfl | rfl <;> (simp [bvals] at hj; subst hj; simp [go_sem])) (bvals_one _) (by simp [rowB, four, maxLen]) (by simp [rowB, four]) (by simp only [World.size_alloc, grow_size, World.size_drew]; omega) ?_; intro v' w1 hown1 hgrow _; refine hK _ _ ⟨Ext.owned (by repeat (first | (with_reducible exact Ext.refl _) | (with_reducible refine Ext.undrew ?_) | (with_reducible refine Ext.grow ?_ _) | (with_reducible refine Ext.drew ?_) | (with_reducible refine Ext.drewN ?_ _) | (with_reducible refine Ext.alloc ?_ _) | (with_reducible assumption) | ((with_reducible refine Ext.setCell ?_ ?_ _); rotate_left; (first | exact Nat.le_refl _ | ((try dsimp only); (try simp only [World.size_alloc, grow_size, World.size_setCell]); omega))))) (OwnB.rebase (OwnB.keptExt hv.out (by repeat (first | (with_reducible exact Ext.refl _) | (with_reducible refine Ext.undrew ?_) | (with_reducible refine Ext.grow ?_ _) | (with_reducible refine Ext.drew ?_) | (with_reducible refine Ext.drewN ?_ _) | (with_reducible refine Ext.alloc ?_ _) | (with_reducible assumption) | ((with_reducible refine Ext.setCell ?_ ?_ _); rotate_left; (first | exact Nat.le_refl _ | ((try dsimp only); (try simp only [World.size_alloc, grow_size, World.size_setCell]); omega)))))) (by simp only [World.size_alloc, grow_size, World.size_drew]; omega)) hgrow, ?_⟩; have hx1 : Ext (Go.Proofs.Ytgpeabbbeidhpaa.grow (w.alloc (.cells #[.bool t, .int .i64 b, .int .i64 tp, .int .i64 a, .int .i64 p, .int .i64 ty] 31)) d) w1 := Ext.owned (by repeat (first | (with_reducible exact Ext.refl _) | (with_reducible refine Ext.undrew ?_) | (with_reducible refine Ext.grow ?_ _) | (with_reducible refine Ext.drew ?_) | (with_reducible refine Ext.drewN ?_ _) | (with_reducible refine Ext.alloc ?_ _) | (with_reducible assumption) | ((with_reducible refine Ext.setCell ?_ ?_ _); rotate_left; (first | exact Nat.le_refl _ | ((try dsimp only); (try simp only [World.size_alloc, grow_size, World.size_setCell]); omega))))) (OwnB.rebase (OwnB.keptExt hv.out (by repeat (first | (with_reducible exact Ext.refl _) | (with_reducible refine Ext.undrew ?_) | (with_reducible refine Ext.grow ?_ _) | (with_reducible refine Ext.drew ?_) | (with_reducible refine Ext.drewN ?_ _) | (with_reducible refine Ext.alloc ?_ _) | (with_reducible assumption) | ((with_reducible refine Ext.setCell ?_ ?_ _); rotate_left; (first | exact Nat.le_refl _ | ((try dsimp only); (try simp only [World.size_alloc, grow_size, World.size_setCell]); omega)))))) (by simp only [World.size_alloc, grow_size, World.size_drew]; omega)) hgrow; have hown2 := hid (OwnB.more hown1); clear hK K hgrow hown1)
  all_goals
    simp only [Act.put, List.setIfInBounds_toArray, List.set_cons_zero, List.set_cons_succ]
    refine chain_read (by rfl) (fun K hK => ?_); go_big_quiet_op; refine hK _ ?_; clear hK K
    refine chain_nil ?_
    obtain ⟨q, ca, rfl, hl, hm, hq, hrd⟩ := OwnB.rd2 hown2.out (by simp [rowB, four])
    have hrd := hid hrd
    have hq2 : w.heap.size ≤ q := by simp only [World.size_alloc, grow_size, World.size_drew] at hq; omega
    have hl2 : 16 ≤ ca := hl
    have HQ := hid (And.intro hl2 (And.intro hm hq2))
    clear hown2 hv hl hm hq hq2 hl2
    go_wp2
    go_ret
    exact ⟨q, ca, rfl, HQ.out.1, HQ.out.2.1, HQ.out.2.2, hrd.out, Ext.trans (by repeat (first | (with_reducible exact Ext.refl _) | (with_reducible refine Ext.undrew ?_) | (with_reducible refine Ext.grow ?_ _) | (with_reducible refine Ext.drew ?_) | (with_reducible refine Ext.drewN ?_ _) | (with_reducible refine Ext.alloc ?_ _) | (with_reducible assumption) | ((with_reducible refine Ext.setCell ?_ ?_ _); rotate_left; (first | exact Nat.le_refl _ | ((try dsimp only); (try simp only [World.size_alloc, grow_size, World.size_setCell]); omega))))) hx1⟩


end Go.Proofs.Ytgpeabbbeidhpaa
