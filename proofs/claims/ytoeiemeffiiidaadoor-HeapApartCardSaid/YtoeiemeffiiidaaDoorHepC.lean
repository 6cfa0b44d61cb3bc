/- Layer 14: what a heap tells; Size. -/
import Derived.Test.YtoeiemeffiiidaaDoorHepB
namespace Go.Proofs.YtoeiemeffiiidaaDoor
set_option linter.unusedSimpArgs false
set_option linter.unusedVariables false
open Go.RowKit

set_option maxRecDepth 100000 in
set_option maxHeartbeats 4000000 in
theorem hLeft (w W : World) (h ck q fq p pq g bq bf n : Nat) (fr tu ra rp full : Int) (T : Nat → Prop) (x : HSt) (k : Hp w W h ck q fq p pq g bq bf n fr tu ra rp full T x) (hll : x.lf.length ≤ 10000000) : Calls Tryd.prog 21 #[.pointer (some ⟨h, 0, none⟩)] W fun e W' => e = .returned (.int .i64 (sumP x.lf)) ∧ Ext W W' := by
  obtain ⟨vq, vf, k, hT⟩ := k
  have HT9 := hid hT
  clear hT
  have HK := hid k
  have HLL := hid hll
  clear hll
  have c0 := k.c0
  have c1 := k.c1
  have c8 := k.c8
  have hl := k.hl
  have ht := k.okl.2.2.1
  obtain ⟨ht0, ht1⟩ := ht
  clear k
  go_enter Tryd.func21, Tryd.ntmps21
  go_wp2_with (go_at_call 44; refine (eall_ fq bf fr tu vf x.lf _ HK.out.ex.1.1 HLL.out (HK.out.ex.2.1.okF HK.out.ex.2.2.1 HK.out.ex.2.2.2)).mono ?_; rintro e w1 ⟨rfl, hy⟩; obtain ⟨d, rfl⟩ := hy.grown; clear hy)
  go_ret
  exact ⟨by first | rfl | simp, (by repeat (first | (with_reducible exact Ext.refl _) | (with_reducible refine Ext.undrew ?_) | (with_reducible refine Ext.grow ?_ _) | (with_reducible refine Ext.drew ?_) | (with_reducible refine Ext.drewN ?_ _) | (with_reducible refine Ext.alloc ?_ _) | (with_reducible assumption) | ((with_reducible refine Ext.setCell ?_ ?_ _); rotate_left; (first | exact Nat.le_refl _ | ((try dsimp only); (try simp only [World.size_alloc, grow_size, World.size_setCell]); omega)))))⟩
set_option maxRecDepth 100000 in
set_option maxHeartbeats 4000000 in
theorem hApart (w W : World) (h ck q fq p pq g bq bf n : Nat) (fr tu ra rp full : Int) (T : Nat → Prop) (x : HSt) (k : Hp w W h ck q fq p pq g bq bf n fr tu ra rp full T x) : Calls Tryd.prog 20 #[.pointer (some ⟨h, 0, none⟩)] W fun e W' => e = .returned (.int .i64 (sumL x.lq)) ∧ Ext W W' := by
  obtain ⟨vq, vf, k, hT⟩ := k
  have HT9 := hid hT
  clear hT
  have HK := hid k
  have c0 := k.c0
  have c1 := k.c1
  have c8 := k.c8
  have hl := k.hl
  have ht := k.okl.2.2.1
  obtain ⟨ht0, ht1⟩ := ht
  clear k
  go_enter Tryd.func20, Tryd.ntmps20
  go_wp2_with (go_at_call 43; refine (qbytes_ q bq full (sumL x.lq) vq x.lq _ HK.out.qs).mono ?_; rintro e w1 ⟨rfl, rfl⟩)
  go_ret
  exact ⟨by first | rfl | simp, (by repeat (first | (with_reducible exact Ext.refl _) | (with_reducible refine Ext.undrew ?_) | (with_reducible refine Ext.grow ?_ _) | (with_reducible refine Ext.drew ?_) | (with_reducible refine Ext.drewN ?_ _) | (with_reducible refine Ext.alloc ?_ _) | (with_reducible assumption) | ((with_reducible refine Ext.setCell ?_ ?_ _); rotate_left; (first | exact Nat.le_refl _ | ((try dsimp only); (try simp only [World.size_alloc, grow_size, World.size_setCell]); omega)))))⟩
set_option maxRecDepth 100000 in
set_option maxHeartbeats 4000000 in
theorem hNow (w W : World) (h ck q fq p pq g bq bf n : Nat) (fr tu ra rp full : Int) (T : Nat → Prop) (x : HSt) (k : Hp w W h ck q fq p pq g bq bf n fr tu ra rp full T x) : Calls Tryd.prog 26 #[.pointer (some ⟨h, 0, none⟩)] W fun e W' => e = .returned (.int .i64 x.t) ∧ Ext W W' := by
  obtain ⟨vq, vf, k, hT⟩ := k
  have HT9 := hid hT
  clear hT
  have HK := hid k
  have c0 := k.c0
  have c1 := k.c1
  have c8 := k.c8
  have hl := k.hl
  have ht := k.okl.2.2.1
  obtain ⟨ht0, ht1⟩ := ht
  clear k
  go_enter Tryd.func26, Tryd.ntmps26
  go_wp2_with (go_at_call 33; refine (now ck x.t _ HK.out.clk ht0 ht1).mono ?_; rintro e w1 ⟨rfl, rfl⟩)
  go_ret
  exact ⟨by first | rfl | simp, (by repeat (first | (with_reducible exact Ext.refl _) | (with_reducible refine Ext.undrew ?_) | (with_reducible refine Ext.grow ?_ _) | (with_reducible refine Ext.drew ?_) | (with_reducible refine Ext.drewN ?_ _) | (with_reducible refine Ext.alloc ?_ _) | (with_reducible assumption) | ((with_reducible refine Ext.setCell ?_ ?_ _); rotate_left; (first | exact Nat.le_refl _ | ((try dsimp only); (try simp only [World.size_alloc, grow_size, World.size_setCell]); omega)))))⟩
set_option maxRecDepth 100000 in
set_option maxHeartbeats 4000000 in
theorem hRuns (w W : World) (h ck q fq p pq g bq bf n : Nat) (fr tu ra rp full : Int) (T : Nat → Prop) (x : HSt) (k : Hp w W h ck q fq p pq g bq bf n fr tu ra rp full T x) : Calls Tryd.prog 23 #[.pointer (some ⟨h, 0, none⟩)] W fun e W' => e = .returned (.bool (oddB x.t)) ∧ Ext W W' := by
  obtain ⟨vq, vf, k, hT⟩ := k
  have HT9 := hid hT
  clear hT
  have HK := hid k
  have c0 := k.c0
  have c1 := k.c1
  have c8 := k.c8
  have hl := k.hl
  have ht := k.okl.2.2.1
  obtain ⟨ht0, ht1⟩ := ht
  clear k
  go_enter Tryd.func23, Tryd.ntmps23
  go_wp2_with (go_at_call 45; refine (runs ck x.t _ HK.out.clk ht0 ht1).mono ?_; rintro e w1 ⟨rfl, rfl⟩)
  go_ret
  exact ⟨by first | rfl | simp, (by repeat (first | (with_reducible exact Ext.refl _) | (with_reducible refine Ext.undrew ?_) | (with_reducible refine Ext.grow ?_ _) | (with_reducible refine Ext.drew ?_) | (with_reducible refine Ext.drewN ?_ _) | (with_reducible refine Ext.alloc ?_ _) | (with_reducible assumption) | ((with_reducible refine Ext.setCell ?_ ?_ _); rotate_left; (first | exact Nat.le_refl _ | ((try dsimp only); (try simp only [World.size_alloc, grow_size, World.size_setCell]); omega)))))⟩
set_option maxRecDepth 100000 in
set_option maxHeartbeats 4000000 in
theorem hWants (w W : World) (h ck q fq p pq g bq bf n : Nat) (fr tu ra rp full : Int) (T : Nat → Prop) (x : HSt) (k : Hp w W h ck q fq p pq g bq bf n fr tu ra rp full T x) : Calls Tryd.prog 22 #[.pointer (some ⟨h, 0, none⟩)] W fun e W' => e = .returned (.bool (!oddB x.t && decide (full ≤ sumL x.lq))) ∧ Ext W W' := by
  obtain ⟨vq, vf, k, hT⟩ := k
  have HT9 := hid hT
  clear hT
  have HK := hid k
  have c0 := k.c0
  have c1 := k.c1
  have hl := k.hl
  have ht := k.okl.2.2.1
  obtain ⟨ht0, ht1⟩ := ht
  clear k
  obtain ⟨od, hod⟩ : ∃ b, oddB x.t = b := ⟨_, rfl⟩
  have HOD := hid hod
  rw [hod]
  clear hod
  cases od with
  | true =>
    go_enter Tryd.func22, Tryd.ntmps22
    go_wp2_with (first | (go_at_call 45; refine (runs ck x.t _ HK.out.clk ht0 ht1).mono ?_; rw [HOD.out]; rintro e w1 ⟨rfl, rfl⟩) | (go_at_call 46; refine (qfull_ q bq full (sumL x.lq) vq x.lq _ HK.out.qs).mono ?_; rintro e w1 ⟨rfl, hy⟩; obtain ⟨d, rfl⟩ := hy.grown; clear hy))
    go_ret
    exact ⟨by first | rfl | simp, (by repeat (first | (with_reducible exact Ext.refl _) | (with_reducible refine Ext.undrew ?_) | (with_reducible refine Ext.grow ?_ _) | (with_reducible refine Ext.drew ?_) | (with_reducible refine Ext.drewN ?_ _) | (with_reducible refine Ext.alloc ?_ _) | (with_reducible assumption) | ((with_reducible refine Ext.setCell ?_ ?_ _); rotate_left; (first | exact Nat.le_refl _ | ((try dsimp only); (try simp only [World.size_alloc, grow_size, World.size_setCell]); omega)))))⟩
  | false =>
    go_enter Tryd.func22, Tryd.ntmps22
    go_wp2_with (first | (go_at_call 45; refine (runs ck x.t _ HK.out.clk ht0 ht1).mono ?_; rw [HOD.out]; rintro e w1 ⟨rfl, rfl⟩) | (go_at_call 46; refine (qfull_ q bq full (sumL x.lq) vq x.lq _ HK.out.qs).mono ?_; rintro e w1 ⟨rfl, hy⟩; obtain ⟨d, rfl⟩ := hy.grown; clear hy))
    go_ret
    exact ⟨by first | rfl | simp, (by repeat (first | (with_reducible exact Ext.refl _) | (with_reducible refine Ext.undrew ?_) | (with_reducible refine Ext.grow ?_ _) | (with_reducible refine Ext.drew ?_) | (with_reducible refine Ext.drewN ?_ _) | (with_reducible refine Ext.alloc ?_ _) | (with_reducible assumption) | ((with_reducible refine Ext.setCell ?_ ?_ _); rotate_left; (first | exact Nat.le_refl _ | ((try dsimp only); (try simp only [World.size_alloc, grow_size, World.size_setCell]); omega)))))⟩
set_option maxRecDepth 100000 in
set_option maxHeartbeats 4000000 in
theorem hSize (w W : World) (h ck q fq p pq g bq bf n : Nat) (fr tu ra rp full : Int) (T : Nat → Prop) (x : HSt) (k : Hp w W h ck q fq p pq g bq bf n fr tu ra rp full T x) (t : Bool) (b tp at_ pm ty : Int) (hb : -9223372036854775808 ≤ b ∧ b ≤ 9223372036854775807) : Calls Tryd.prog 16 #[.pointer (some ⟨h, 0, none⟩), .agg #[.bool t, .int .i64 b, .int .i64 tp, .int .i64 at_, .int .i64 pm, .int .i64 ty]] W fun e W' => e = .returned (.tuple #[.int .i64 (ofB x.lv ⟨t, b, tp, at_, pm, ty⟩).takes, .int .i64 (ofE x.lv ⟨t, b, tp, at_, pm, ty⟩)]) ∧ Ext W W' := by
  obtain ⟨vq, vf, k, hT⟩ := k
  have HT9 := hid hT
  clear hT
  have HK := hid k
  have c0 := k.c0
  have c1 := k.c1
  have c10 := k.c10
  have hl := k.hl
  have HBB := hid hb
  obtain ⟨y, hy⟩ : ∃ y, ofB x.lv ⟨t, b, tp, at_, pm, ty⟩ = y := ⟨_, rfl⟩
  obtain ⟨er, her⟩ : ∃ y, ofE x.lv ⟨t, b, tp, at_, pm, ty⟩ = y := ⟨_, rfl⟩
  have HOB : Hid ((ofB x.lv ⟨t, b, tp, at_, pm, ty⟩).val = .agg #[.int .i64 y.asked, .int .i64 y.takes]) := hid (by rw [hy]; rfl)
  have HOE := hid her
  have HOY := hid hy
  rw [hy, her]
  clear k hb hy her
  go_enter Tryd.func16, Tryd.ntmps16
  go_upto_region 1 with (fail)
  refine wp_region_step (.rd 0 (.rd 1 (.rd 2 (.rd 3 (.br 4 (.rd 5 (.rd 6 (.rd 7 (.ac 8 (.ac 9 (.rd 10 .done)))))) 8 (.ac 4 (.rd 5 (.rd 6 (.rd 7 (.ac 9 (.rd 10 .done))))))))))) (by kernel_rfl) (by kernel_rfl) (fun _ _ d _ _ h => by cases d <;> exact h) (by simp only [Ord.map, nthOp, List.append]; rfl) ?_
  intro d0
  repeat' (first | (refine step_read (by rfl) (fun K hK => ?_); go_big_quiet_op; refine hK _ ?_; clear hK K) | (refine step_act (by rfl) (fun K hK => ?_); go_wp2_with (first | (go_at_call 31; refine (of_ w _ h ck q fq p pq g bq bf n fr tu ra rp full vq vf x (HK.out.ext (by repeat (first | (with_reducible exact Ext.refl _) | (with_reducible refine Ext.undrew ?_) | (with_reducible refine Ext.grow ?_ _) | (with_reducible refine Ext.drew ?_) | (with_reducible refine Ext.drewN ?_ _) | (with_reducible refine Ext.alloc ?_ _) | (with_reducible assumption) | ((with_reducible refine Ext.setCell ?_ ?_ _); rotate_left; (first | exact Nat.le_refl _ | ((try dsimp only); (try simp only [World.size_alloc, grow_size, World.size_setCell]); omega)))))) t b tp at_ pm ty HBB.out).mono ?_; rw [HOB.out, HOE.out]; rintro e w1 ⟨rfl, hy⟩; obtain ⟨d, rfl⟩ := hy.grown; clear hy)); refine ⟨_, Ext.refl _, (by repeat (first | (with_reducible exact Ext.refl _) | (with_reducible refine Ext.undrew ?_) | (with_reducible refine Ext.grow ?_ _) | (with_reducible refine Ext.drew ?_) | (with_reducible refine Ext.drewN ?_ _) | (with_reducible refine Ext.alloc ?_ _) | (with_reducible assumption) | ((with_reducible refine Ext.setCell ?_ ?_ _); rotate_left; (first | exact Nat.le_refl _ | ((try dsimp only); (try simp only [World.size_alloc, grow_size, World.size_setCell]); omega))))), ?_⟩) | refine step_br ?_ ?_)
  all_goals refine step_nil ?_
  all_goals go_wp2
  all_goals exact bodyPost_ret (v := .tuple #[.int .i64 y.takes, .int .i64 er]) (by simp [results, Tryd.results16, go_sem]) rfl ⟨rfl, (by repeat (first | (with_reducible exact Ext.refl _) | (with_reducible refine Ext.undrew ?_) | (with_reducible refine Ext.grow ?_ _) | (with_reducible refine Ext.drew ?_) | (with_reducible refine Ext.drewN ?_ _) | (with_reducible refine Ext.alloc ?_ _) | (with_reducible assumption) | ((with_reducible refine Ext.setCell ?_ ?_ _); rotate_left; (first | exact Nat.le_refl _ | ((try dsimp only); (try simp only [World.size_alloc, grow_size, World.size_setCell]); omega)))))⟩

end Go.Proofs.YtoeiemeffiiidaaDoor
