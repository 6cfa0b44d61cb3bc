/- Layer 3: the document has Put. -/
import Derived.Test.YtgpeabbbeidhpaaEncA
import Derived.Test.YtgpeabbbeidhpaaRef2
import Derived.Test.YtgpeabbbeidhpaaStep
namespace Go.Proofs.Ytgpeabbbeidhpaa
set_option linter.unusedSimpArgs false
set_option linter.unusedVariables false
open Go.RowKit

set_option maxHeartbeats 400000 in
theorem rput_no (t : Bool) (b tp a p ty : Int) (w : World) (hr : rightC ⟨t, b, tp, a, p, ty⟩ = false) :
    Calls Try.prog 34 #[.agg #[.bool t, .int .i64 b, .int .i64 tp, .int .i64 a, .int .i64 p, .int .i64 ty]] w fun e w' => e = .returned (.slice none 0 0) ∧ Ext w w' := by
  go_enter Try.func34, Try.ntmps34
  go_wp2_with (go_at_call 33; refine (rcapRight _ _ _ _ _ _ _).mono ?_; rintro e w1 ⟨rfl, hy⟩; obtain ⟨d, rfl⟩ := hy.grown; clear hy)
  all_goals go_ret
  all_goals exact ⟨rfl, (by repeat (first | (with_reducible exact Ext.refl _) | (with_reducible refine Ext.undrew ?_) | (with_reducible refine Ext.grow ?_ _) | (with_reducible refine Ext.drew ?_) | (with_reducible refine Ext.drewN ?_ _) | (with_reducible refine Ext.alloc ?_ _) | (with_reducible assumption) | ((with_reducible refine Ext.setCell ?_ ?_ _); rotate_left; (first | exact Nat.le_refl _ | ((try dsimp only); (try simp only [World.size_alloc, grow_size, World.size_setCell]); omega)))))⟩

set_option maxRecDepth 100000 in
set_option maxHeartbeats 4000000 in
theorem rput_yes (t : Bool) (b tp a p ty : Int) (w : World) (hr : rightC ⟨t, b, tp, a, p, ty⟩ = true) :
    Calls Try.prog 34 #[.agg #[.bool t, .int .i64 b, .int .i64 tp, .int .i64 a, .int .i64 p, .int .i64 ty]] w fun e w' => ∃ q ca, e = .returned (.slice (some ⟨q, 0, none⟩) 16 ca) ∧ 16 ≤ ca ∧ ca ≤ maxLen ∧ w.heap.size ≤ q ∧ RdB w' (some ⟨q, 0, none⟩) (bytesC ⟨t, b, tp, a, p, ty⟩) ∧ Ext w w' := by
  obtain ⟨i0, hi, hz0, hz1, hz2⟩ := info_parts info_u8
  have HI := hid hi
  go_enter Try.func34, Try.ntmps34
  go_wp2_with (go_at_call 33; refine (rcapRight _ _ _ _ _ _ _).mono ?_; rintro e w1 ⟨rfl, hy⟩; obtain ⟨d, rfl⟩ := hy.grown; clear hy)
  have f1 : Hid (Ext w (Go.Proofs.Ytgpeabbbeidhpaa.grow (w.alloc (.cells #[.bool t, .int .i64 b, .int .i64 tp, .int .i64 a, .int .i64 p, .int .i64 ty] 31)) d)) := hid (by repeat (first | (with_reducible exact Ext.refl _) | (with_reducible refine Ext.undrew ?_) | (with_reducible refine Ext.grow ?_ _) | (with_reducible refine Ext.drew ?_) | (with_reducible refine Ext.drewN ?_ _) | (with_reducible refine Ext.alloc ?_ _) | (with_reducible assumption) | ((with_reducible refine Ext.setCell ?_ ?_ _); rotate_left; (first | exact Nat.le_refl _ | ((try dsimp only); (try simp only [World.size_alloc, grow_size, World.size_setCell]); omega)))))
  have f3 : (Go.Proofs.Ytgpeabbbeidhpaa.grow (w.alloc (.cells #[.bool t, .int .i64 b, .int .i64 tp, .int .i64 a, .int .i64 p, .int .i64 ty] 31)) d).cell? ⟨w.heap.size, 0, none⟩ = some (.bool t) ∧ (Go.Proofs.Ytgpeabbbeidhpaa.grow (w.alloc (.cells #[.bool t, .int .i64 b, .int .i64 tp, .int .i64 a, .int .i64 p, .int .i64 ty] 31)) d).cell? ⟨w.heap.size, 1, none⟩ = some (.int .i64 b) ∧ (Go.Proofs.Ytgpeabbbeidhpaa.grow (w.alloc (.cells #[.bool t, .int .i64 b, .int .i64 tp, .int .i64 a, .int .i64 p, .int .i64 ty] 31)) d).cell? ⟨w.heap.size, 2, none⟩ = some (.int .i64 tp) ∧ (Go.Proofs.Ytgpeabbbeidhpaa.grow (w.alloc (.cells #[.bool t, .int .i64 b, .int .i64 tp, .int .i64 a, .int .i64 p, .int .i64 ty] 31)) d).cell? ⟨w.heap.size, 3, none⟩ = some (.int .i64 a) ∧ (Go.Proofs.Ytgpeabbbeidhpaa.grow (w.alloc (.cells #[.bool t, .int .i64 b, .int .i64 tp, .int .i64 a, .int .i64 p, .int .i64 ty] 31)) d).cell? ⟨w.heap.size, 4, none⟩ = some (.int .i64 p) ∧ (Go.Proofs.Ytgpeabbbeidhpaa.grow (w.alloc (.cells #[.bool t, .int .i64 b, .int .i64 tp, .int .i64 a, .int .i64 p, .int .i64 ty] 31)) d).cell? ⟨w.heap.size, 5, none⟩ = some (.int .i64 ty) := by simp [go_sem]
  have f4 : w.heap.size < (Go.Proofs.Ytgpeabbbeidhpaa.grow (w.alloc (.cells #[.bool t, .int .i64 b, .int .i64 tp, .int .i64 a, .int .i64 p, .int .i64 ty] 31)) d).heap.size := by simp only [grow_size, World.size_alloc]; omega
  generalize (Go.Proofs.Ytgpeabbbeidhpaa.grow (w.alloc (.cells #[.bool t, .int .i64 b, .int .i64 tp, .int .i64 a, .int .i64 p, .int .i64 ty] 31)) d) = W at f1 f3 f4 ⊢
  obtain ⟨c0, c1, c2, c3, c4, c5⟩ := f3
  refine wp_region_step (.rd 0 (.rd 1 (.rd 3 (.rd 4 (.rd 6 (.rd 7 (.ac 2 (.ac 5 (.ac 8 (.rd 9 .done)))))))))) (by kernel_rfl) (by kernel_rfl) (fun _ _ d _ _ h => by cases d <;> exact h) (by simp only [Ord.map, nthOp, List.append]; rfl) ?_
  intro d0
  repeat (refine step_read (by rfl) (fun K hK => ?_); go_big_quiet_op; refine hK _ ?_; clear hK K)
  refine step_act (by rfl) (fun K hK => ?_)
  go_wp2_with (go_at_call 47; refine Calls.mono (rfour (.slice none 0 0) (Go.Proofs.Ytgpeabbbeidhpaa.grow W d0).heap.size [] a _ (OwnB.nil _ _) (by simp [four]) (Nat.le_refl _)) ?_; rintro e w1 ⟨v1, rfl, hv1, hx1⟩)
  refine ⟨_, Ext.refl _, hx1, ?_⟩
  have hv1 := hid hv1
  have hx1 := hid hx1
  refine step_act (by rfl) (fun K hK => ?_)
  go_wp2_with (go_at_call 47; refine Calls.mono (rfour v1 (Go.Proofs.Ytgpeabbbeidhpaa.grow W d0).heap.size (four a) b _ hv1.out (by simp [four]) hx1.out.size) ?_; rintro e w2 ⟨v2, rfl, hv2, hx2⟩)
  have hx2 : Ext (Go.Proofs.Ytgpeabbbeidhpaa.grow W d0) w2 := Below.trans hx1.out hx2
  refine ⟨_, Ext.refl _, hx2, ?_⟩
  have hv2 := hid hv2
  have hx2 := hid hx2
  refine step_act (by rfl) (fun K hK => ?_)
  go_wp2_with (go_at_call 47; refine Calls.mono (rfour v2 (Go.Proofs.Ytgpeabbbeidhpaa.grow W d0).heap.size (four a ++ four b) tp _ hv2.out (by simp [four]) hx2.out.size) ?_; rintro e w3 ⟨v3, rfl, hv3, hx3⟩)
  have hx3 : Ext (Go.Proofs.Ytgpeabbbeidhpaa.grow W d0) w3 := Below.trans hx2.out hx3
  refine ⟨_, Ext.refl _, hx3, ?_⟩
  have hs3 := hx3.size
  have g4 : w3.cell? ⟨w.heap.size, 4, none⟩ = some (.int .i64 p) := by
    rw [hx3.cells _ _ (by rw [grow_size]; omega), grow_cell _ _ _ _ f4]
    exact c4
  have g5 : w3.cell? ⟨w.heap.size, 5, none⟩ = some (.int .i64 ty) := by
    rw [hx3.cells _ _ (by rw [grow_size]; omega), grow_cell _ _ _ _ f4]
    exact c5
  have hq3 : w.heap.size < w3.heap.size := by rw [grow_size] at hs3; omega
  have hv3 := hid hv3
  have hx3 := hid hx3
  have HS3 := hid hs3
  clear hv1 hv2 hx1 hx2 c0 c1 c2 c3 c4 c5 hs3
  refine step_read (by rfl) (fun K hK => ?_); go_big_quiet_op; refine hK _ ?_; clear hK K
  refine step_nil ?_
  go_wp2_with (at_builtin; refine wpList_append_own _ rfl _ _ 29 rfl (Go.Proofs.Ytgpeabbbeidhpaa.grow W d0).heap.size 5 i0 _ 1 1 Try.underlying29 hi hz0 hz1 hz2 rfl (by decide) _ _ _ rfl (World.ownsRow.alloc hv3.out _) ⟨w3.heap.size, 0, none⟩ 4 4 (bvals [0, p % 256, 0, ty % 256]) rfl rfl ?c1 (bvals_one _) ?c3 ?c4 ?c5 ?_)
  case c1 => exact fun j u hj => World.news_of_block (heap_alloc_new w3 _) j u (by simpa [bvals] using hj)
  case c3 => simp [four, maxLen]
  case c4 => simp [four]
  case c5 => have := HS3.out; simp only [World.size_alloc]; omega
  intro v' w4 hown1 hgrow _
  have hown2 := OwnB.more hown1
  have hx4 : Ext (Go.Proofs.Ytgpeabbbeidhpaa.grow W d0) w4 := Ext.owned (Ext.alloc hx3.out _) (World.ownsRow.alloc hv3.out _) hgrow
  obtain ⟨q, ca, rfl, hl, hm, hq, hrd⟩ := OwnB.rd2 hown2 (by simp [four])
  have hq2 : w.heap.size ≤ q := by have h := hq; (try rw [grow_size] at h); omega
  have hl2 : 16 ≤ ca := hl
  have hrd2 : RdB w4 (some ⟨q, 0, none⟩) (bytesC ⟨t, b, tp, a, p, ty⟩) := hrd
  have HQ := hid (And.intro hl2 (And.intro hm (And.intro hq2 (And.intro hrd2 hx4))))
  clear hown1 hown2 hv3 hl hm hq hq2 hl2 hrd hrd2 hx4 hgrow
  go_wp2
  go_ret
  exact ⟨q, ca, rfl, HQ.out.1, HQ.out.2.1, HQ.out.2.2.1, HQ.out.2.2.2.1, Ext.trans (Ext.trans f1.out (Ext.grow (Ext.refl W) d0)) HQ.out.2.2.2.2⟩


end Go.Proofs.Ytgpeabbbeidhpaa
