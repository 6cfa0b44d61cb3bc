/- Layer 13: the document's Put. -/
import Derived.Test.YtlbemgkdpagoiaaQuaG
namespace Go.Proofs.Ytlbemgkdpagoiaa
set_option linter.unusedSimpArgs false
set_option linter.unusedVariables false
open Go.RowKit

set_option maxRecDepth 100000 in
set_option maxHeartbeats 4000000 in
theorem rqput_ (q base : Nat) (full : Int) (v : Value) (l : List Hd) (w : World) (h : Rq w q base full v l) (hl : l.length ≤ 1000000) (z : Hd) (hok : okQ l z = true) (ht : 0 ≤ z.time) :
    Calls Try.prog 15 #[.pointer (some ⟨q, 0, none⟩), .agg #[.int .i64 z.at_, .int .i64 z.n, .int .i64 z.time]] w fun e w' => ∃ v', e = .returned (.bool true) ∧ Rq w' q base full v' (l ++ [z]) ∧ Only (tch q v) w w' ∧ (∀ g, v'.ownBlock = some g → v.ownBlock = some g ∨ w.heap.size ≤ g) := by
  have HQ := hid h
  obtain ⟨A, ca, rfl, hca, _⟩ := h.2.2.2.1.shape
  obtain ⟨hq, ⟨a0, a1⟩, _, ho, _⟩ := h
  unfold okQ at hok
  obtain ⟨⟨⟨⟨h1, h2⟩, h3, h4⟩, h5⟩, h6⟩ : (((0 ≤ z.at_ ∧ z.at_ ≤ 16777216) ∧ (0 ≤ z.n ∧ z.n ≤ 16777216)) ∧ ¬ z.time < lastT l) ∧ ¬ (2199023255552 : Int) < z.time := by
    simpa only [Bool.and_eq_true, Bool.not_eq_true', decide_eq_false_iff_not, decide_eq_true_eq] using hok
  have k1 : ¬ z.at_ < 0 := by omega
  have k2 : ¬ (16777216 : Int) < z.at_ := by omega
  have k3 : ¬ z.n < 0 := by omega
  have k4 : ¬ (16777216 : Int) < z.n := by omega
  have k5 : ¬ z.time < 0 := by omega
  clear h1 h2 h3 h4 ht hok
  have hbase : base ≤ q := HQ.out.2.2.2.2.1
  generalize hv : (Value.slice A l.length ca) = v at HQ a1
  rcases hm : l.length with _ | m
  · rw [← hv, hm] at a1
    have hz : ¬ (0 : Int) < ((0 : Nat) : Int) := by omega
    clear h5 ho hv
    go_enter Try.func15, Try.ntmps15
    go_upto_region 1 with (fail)
    refine wp_region_grow (by kernel_rfl) (by kernel_rfl) (by first | (simp only [List.append]; rfl) | rfl) ?_
    (repeat (go_big_quiet_step (fail)))
    refine wpQuiet_nil ?_
    intro wq hq
    obtain ⟨d, rfl⟩ := hq
    go_upto_region 3 with (fail)
    refine wp_gen (fun W => Hid (Ext w W) ∧ Hid (Row W w.heap.size 0 [.int .i64 z.at_, .int .i64 z.n, .int .i64 z.time])) ⟨hid (by repeat (first | (with_reducible exact Ext.refl _) | (with_reducible refine Ext.undrew ?_) | (with_reducible refine Ext.grow ?_ _) | (with_reducible refine Ext.drew ?_) | (with_reducible refine Ext.drewN ?_ _) | (with_reducible refine Ext.alloc ?_ _) | (with_reducible assumption) | ((with_reducible refine Ext.setCell ?_ ?_ _); rotate_left; (first | exact Nat.le_refl _ | ((try dsimp only); (try simp only [World.size_alloc, grow_size, World.size_setCell]); omega))))), hid ((Row.new w _ _).ext (Ext.grow (Ext.refl _) d))⟩ ?_
    rintro W1 ⟨hE1, hR1⟩
    clear hm
    obtain ⟨bx, hbx⟩ : ∃ x, w.heap.size = x := ⟨_, rfl⟩
    rw [hbx] at hR1 ⊢
    have HQ1 := hid (HQ.out.ext hE1.out)
    have hSb : ¬ tch q v bx := by
      rintro (h | h)
      · omega
      · have := (HQ.out.2.2.2.1.lt _ h).2; omega
    refine wp_region_only (S := tch q v) (.rd 0 (.rd 1 (.rd 2 (.rd 3 (.rd 5 (.br 4 (.ac 6 (.ac 7 (.rd 8 (.rd 9 (.ac 10 .done))))) 6 (.ac 4 (.ac 7 (.rd 8 (.rd 9 (.ac 10 .done))))))))))) (by kernel_rfl) (by kernel_rfl) (fun _ _ d _ _ h => by cases d <;> exact h) (by simp only [Ord.map, nthOp, List.append]; rfl) ?_
    intro d1
    have hR5 := hid (hR1.out.ext (Ext.grow (Ext.refl W1) d1))
    have HQ4 := hid (HQ1.out.ext (Ext.grow (Ext.refl W1) d1))
    have hE5 := hid (hE1.out.trans (Ext.grow (Ext.refl W1) d1))
    generalize Go.Proofs.Ytlbemgkdpagoiaa.grow W1 d1 = W4 at hR5 HQ4 hE5 ⊢
    have hc4 := HQ4.out.2.1.2
    have hq3 := HQ4.out.1
    clear hR1 HQ1 hE1 a1
    obtain ⟨i0, z0, hi0, hz0, hz1, hz2, hz3⟩ := held_info
    repeat' (first | (refine only_read (by rfl) (fun K hK => ?_); refine quiet_loadC 29 (.tmp 3) rfl bx 0 rfl [.int .i64 z.at_, .int .i64 z.n, .int .i64 z.time] _ (fun w' hw' => (hR5.out.only hw' hSb).range) Try.underlying29 rfl (by kernel_rfl) ?_; refine hK _ ?_; clear hK K; simp only [Act.put, List.setIfInBounds_toArray, List.set_cons_zero, List.set_cons_succ]) | (refine only_read (by rfl) (fun K hK => ?_); refine quiet_runD 61 rfl (.pointer (some ⟨q, 0, none⟩)) (fun w => by kernel_rfl) ?_; refine hK _ ?_; clear hK K; simp only [Act.put, List.setIfInBounds_toArray, List.set_cons_zero, List.set_cons_succ]) | (refine only_read (by rfl) (fun K hK => ?_); refine quiet_runD 62 rfl (.pointer (some ⟨q, 1, none⟩)) (fun w => by kernel_rfl) ?_; refine hK _ ?_; clear hK K; simp only [Act.put, List.setIfInBounds_toArray, List.set_cons_zero, List.set_cons_succ]) | (refine only_read (by rfl) (fun K hK => ?_); refine quiet_runD 67 rfl (.pointer (some ⟨q, 0, none⟩)) (fun w => by kernel_rfl) ?_; refine hK _ ?_; clear hK K; simp only [Act.put, List.setIfInBounds_toArray, List.set_cons_zero, List.set_cons_succ]) | (refine only_read (by rfl) (fun K hK => ?_); refine quiet_runD 68 rfl (.pointer (some ⟨q, 1, none⟩)) (fun w => by kernel_rfl) ?_; refine hK _ ?_; clear hK K; simp only [Act.put, List.setIfInBounds_toArray, List.set_cons_zero, List.set_cons_succ]) | (refine only_read (by rfl) (fun K hK => ?_); go_big_quiet_op; refine hK _ ?_; clear hK K))
    refine only_br ?_ ?_
    · refine only_act (by rfl) (fun K hK => ?_)
      go_wp2_with fail
      refine ⟨_, Only.refl _ _, Only.refl _ _, ?_⟩
      refine only_act (by rfl) (fun K hK => ?_)
      refine wp_build1 33 29 (.tmp 64) rfl #[.int .i64 z.at_, .int .i64 z.n, .int .i64 z.time] 3 rfl rfl (by omega) (by omega) Try.underlying33 (by kernel_rfl) (by kernel_rfl) ?_
      refine hK _ _ ⟨_, Only.refl _ _, Only.ofExt (Ext.alloc (Ext.refl _) _), ?_⟩
      refine only_gen (fun W => Hid (Ext W4 W) ∧ Hid (Row W W4.heap.size 0 [.int .i64 z.at_, .int .i64 z.n, .int .i64 z.time])) ⟨hid (Ext.alloc (Ext.refl _) _), hid (Row.new W4 _ _)⟩ ?_
      clear hK K
      rintro w4 ⟨hE4, hR4⟩
      have hq4 := hid (HQ4.out.ext hE4.out)
      have hb4 : base ≤ w4.heap.size := by have := hq4.out.1; omega
      have hc5 := hq4.out.2.1.2
      have hS5 : Hid (Only (tch q v) W4 w4) := hid (Only.ofExt hE4.out)
      refine only_act (by rfl) (fun K hK => ?_)
      refine wp_append_at _ (.tmp 63) (.tmp 65) 33 rfl base 29 i0 z0 3 24 Try.underlying33 hi0 hz0 hz2 hz3 hz1 (by omega) v l.length (hdList l) rfl hq4.out.2.2.2.1 ⟨W4.heap.size, 0, none⟩ 1 1 [.int .i64 z.at_, .int .i64 z.n, .int .i64 z.time] rfl rfl (fun j u hj => by rw [Addr.add_lit]; exact hR4.out.range j u hj) (hd_one z) (by unfold maxLen; omega) (by omega) hb4 (by omega) ?_
      intro v6 w6 hown6 hgrow hat
      have hown6 : Hid (ownsAt w6 base 29 3 v6 (l ++ [z]).length (hdList (l ++ [z]))) := hid (by rw [hdList_append, hdList_one, List.length_append]; exact hown6)
      have hS6 : Hid (Only (tch q v) W4 w6) := hid (Only.trans' hS5.out (grownOnly hgrow fun g hg => .inr hg))
      have hne6 : ∀ g, v6.ownBlock = some g → ¬ g = q := fun g h e => by
        rcases hat with h' | ⟨g', h', hlt⟩
        · exact hq4.out.2.2.2.2.2 g (h' ▸ h) e
        · rw [h] at h'; have := hq4.out.1; simp only [Option.some.injEq] at h'; omega
      have hG6 := grownOnly (S := fun i => v.ownBlock = some i) hgrow fun g hg => hg
      have hnq : ¬ v.ownBlock = some q := fun h => hq4.out.2.2.2.2.2 q h rfl
      have hq6 : q < w6.heap.size := Nat.lt_of_lt_of_le hq4.out.1 hG6.size
      have hc60 := (hG6.cells q 0 hq4.out.1 hnq).trans hq4.out.2.1.1
      have hc61 := (hG6.cells q 1 hq4.out.1 hnq).trans hc5
      have hf60 := (hG6.frozens q 0 hq4.out.1 hnq).trans hq4.out.2.2.1.1
      have hf61 := (hG6.frozens q 1 hq4.out.1 hnq).trans hq4.out.2.2.1.2
      obtain ⟨A6, c6, rfl, _, _⟩ := hown6.out.shape
      have hat6 : ∀ g, (Value.slice A6 (l ++ [z]).length c6).ownBlock = some g → v.ownBlock = some g ∨ w.heap.size ≤ g := fun g h => by
        rcases hat with h' | ⟨g', h', hlt⟩
        · exact .inl (h' ▸ h)
        · rw [h] at h'
          simp only [Option.some.injEq] at h'
          have := hE4.out.size
          have := hE5.out.size
          exact .inr (by omega)
      refine hK _ _ ⟨_, Only.refl _ _, hS6.out, ?_⟩
      clear hK K hgrow hG6 hS5 hR4 hE4 hc5 hq4 hat hR5
      simp only [Act.put, List.setIfInBounds_toArray, List.set_cons_zero, List.set_cons_succ]
      repeat' (first | (refine only_read (by rfl) (fun K hK => ?_); refine quiet_runD 61 rfl (.pointer (some ⟨q, 0, none⟩)) (fun w => by kernel_rfl) ?_; refine hK _ ?_; clear hK K; simp only [Act.put, List.setIfInBounds_toArray, List.set_cons_zero, List.set_cons_succ]) | (refine only_read (by rfl) (fun K hK => ?_); refine quiet_runD 62 rfl (.pointer (some ⟨q, 1, none⟩)) (fun w => by kernel_rfl) ?_; refine hK _ ?_; clear hK K; simp only [Act.put, List.setIfInBounds_toArray, List.set_cons_zero, List.set_cons_succ]) | (refine only_read (by rfl) (fun K hK => ?_); refine quiet_runD 67 rfl (.pointer (some ⟨q, 0, none⟩)) (fun w => by kernel_rfl) ?_; refine hK _ ?_; clear hK K; simp only [Act.put, List.setIfInBounds_toArray, List.set_cons_zero, List.set_cons_succ]) | (refine only_read (by rfl) (fun K hK => ?_); refine quiet_runD 68 rfl (.pointer (some ⟨q, 1, none⟩)) (fun w => by kernel_rfl) ?_; refine hK _ ?_; clear hK K; simp only [Act.put, List.setIfInBounds_toArray, List.set_cons_zero, List.set_cons_succ]) | (refine only_read (by rfl) (fun K hK => ?_); go_big_quiet_op; refine hK _ ?_; clear hK K))
      refine only_act (by rfl) (fun K hK => ?_)
      go_wp2_with fail
      refine ⟨_, Only.refl _ _, Only.setCell (S := tch q v) hS6.out (Or.inl (show tch q v q from Or.inl rfl)) _, ?_⟩
      refine only_nil ?_
      have hSx : ∀ u, Only (fun i => i = q) w6 (w6.setCell ⟨q, 1, none⟩ u) := fun u => Only.setCell (S := fun i => i = q) (Only.refl _ _) (.inl rfl) u
      go_wp2
      go_ret
      refine ⟨_, rfl, ⟨by simpa using hq6, ⟨by simp [go_sem, hc60], by simp [go_sem, hc61]⟩, ⟨by simp [go_sem, hf60], by simp [go_sem, hf61]⟩, hown6.out.only (hSx _) hne6, hbase, hne6⟩, Only.trans' (Only.ofExt hE5.out) (Only.setCell (S := tch q v) hS6.out (Or.inl (show tch q v q from Or.inl rfl)) _), hat6⟩
    · refine only_act (by rfl) (fun K hK => ?_)
      refine wp_build1 33 29 (.tmp 64) rfl #[.int .i64 z.at_, .int .i64 z.n, .int .i64 z.time] 3 rfl rfl (by omega) (by omega) Try.underlying33 (by kernel_rfl) (by kernel_rfl) ?_
      refine hK _ _ ⟨_, Only.refl _ _, Only.ofExt (Ext.alloc (Ext.refl _) _), ?_⟩
      refine only_gen (fun W => Hid (Ext W4 W) ∧ Hid (Row W W4.heap.size 0 [.int .i64 z.at_, .int .i64 z.n, .int .i64 z.time])) ⟨hid (Ext.alloc (Ext.refl _) _), hid (Row.new W4 _ _)⟩ ?_
      clear hK K
      rintro w4 ⟨hE4, hR4⟩
      have hq4 := hid (HQ4.out.ext hE4.out)
      have hb4 : base ≤ w4.heap.size := by have := hq4.out.1; omega
      have hc5 := hq4.out.2.1.2
      have hS5 : Hid (Only (tch q v) W4 w4) := hid (Only.ofExt hE4.out)
      refine only_act (by rfl) (fun K hK => ?_)
      go_wp2_with fail
      refine ⟨_, Only.refl _ _, hS5.out, ?_⟩
      refine only_act (by rfl) (fun K hK => ?_)
      refine wp_append_at _ (.tmp 63) (.tmp 65) 33 rfl base 29 i0 z0 3 24 Try.underlying33 hi0 hz0 hz2 hz3 hz1 (by omega) v l.length (hdList l) rfl hq4.out.2.2.2.1 ⟨W4.heap.size, 0, none⟩ 1 1 [.int .i64 z.at_, .int .i64 z.n, .int .i64 z.time] rfl rfl (fun j u hj => by rw [Addr.add_lit]; exact hR4.out.range j u hj) (hd_one z) (by unfold maxLen; omega) (by omega) hb4 (by omega) ?_
      intro v6 w6 hown6 hgrow hat
      have hown6 : Hid (ownsAt w6 base 29 3 v6 (l ++ [z]).length (hdList (l ++ [z]))) := hid (by rw [hdList_append, hdList_one, List.length_append]; exact hown6)
      have hS6 : Hid (Only (tch q v) W4 w6) := hid (Only.trans' hS5.out (grownOnly hgrow fun g hg => .inr hg))
      have hne6 : ∀ g, v6.ownBlock = some g → ¬ g = q := fun g h e => by
        rcases hat with h' | ⟨g', h', hlt⟩
        · exact hq4.out.2.2.2.2.2 g (h' ▸ h) e
        · rw [h] at h'; have := hq4.out.1; simp only [Option.some.injEq] at h'; omega
      have hG6 := grownOnly (S := fun i => v.ownBlock = some i) hgrow fun g hg => hg
      have hnq : ¬ v.ownBlock = some q := fun h => hq4.out.2.2.2.2.2 q h rfl
      have hq6 : q < w6.heap.size := Nat.lt_of_lt_of_le hq4.out.1 hG6.size
      have hc60 := (hG6.cells q 0 hq4.out.1 hnq).trans hq4.out.2.1.1
      have hc61 := (hG6.cells q 1 hq4.out.1 hnq).trans hc5
      have hf60 := (hG6.frozens q 0 hq4.out.1 hnq).trans hq4.out.2.2.1.1
      have hf61 := (hG6.frozens q 1 hq4.out.1 hnq).trans hq4.out.2.2.1.2
      obtain ⟨A6, c6, rfl, _, _⟩ := hown6.out.shape
      have hat6 : ∀ g, (Value.slice A6 (l ++ [z]).length c6).ownBlock = some g → v.ownBlock = some g ∨ w.heap.size ≤ g := fun g h => by
        rcases hat with h' | ⟨g', h', hlt⟩
        · exact .inl (h' ▸ h)
        · rw [h] at h'
          simp only [Option.some.injEq] at h'
          have := hE4.out.size
          have := hE5.out.size
          exact .inr (by omega)
      refine hK _ _ ⟨_, Only.refl _ _, hS6.out, ?_⟩
      clear hK K hgrow hG6 hS5 hR4 hE4 hc5 hq4 hat hR5
      simp only [Act.put, List.setIfInBounds_toArray, List.set_cons_zero, List.set_cons_succ]
      repeat' (first | (refine only_read (by rfl) (fun K hK => ?_); refine quiet_runD 61 rfl (.pointer (some ⟨q, 0, none⟩)) (fun w => by kernel_rfl) ?_; refine hK _ ?_; clear hK K; simp only [Act.put, List.setIfInBounds_toArray, List.set_cons_zero, List.set_cons_succ]) | (refine only_read (by rfl) (fun K hK => ?_); refine quiet_runD 62 rfl (.pointer (some ⟨q, 1, none⟩)) (fun w => by kernel_rfl) ?_; refine hK _ ?_; clear hK K; simp only [Act.put, List.setIfInBounds_toArray, List.set_cons_zero, List.set_cons_succ]) | (refine only_read (by rfl) (fun K hK => ?_); refine quiet_runD 67 rfl (.pointer (some ⟨q, 0, none⟩)) (fun w => by kernel_rfl) ?_; refine hK _ ?_; clear hK K; simp only [Act.put, List.setIfInBounds_toArray, List.set_cons_zero, List.set_cons_succ]) | (refine only_read (by rfl) (fun K hK => ?_); refine quiet_runD 68 rfl (.pointer (some ⟨q, 1, none⟩)) (fun w => by kernel_rfl) ?_; refine hK _ ?_; clear hK K; simp only [Act.put, List.setIfInBounds_toArray, List.set_cons_zero, List.set_cons_succ]) | (refine only_read (by rfl) (fun K hK => ?_); go_big_quiet_op; refine hK _ ?_; clear hK K))
      refine only_act (by rfl) (fun K hK => ?_)
      go_wp2_with fail
      refine ⟨_, Only.refl _ _, Only.setCell (S := tch q v) hS6.out (Or.inl (show tch q v q from Or.inl rfl)) _, ?_⟩
      refine only_nil ?_
      have hSx : ∀ u, Only (fun i => i = q) w6 (w6.setCell ⟨q, 1, none⟩ u) := fun u => Only.setCell (S := fun i => i = q) (Only.refl _ _) (.inl rfl) u
      go_wp2
      go_ret
      refine ⟨_, rfl, ⟨by simpa using hq6, ⟨by simp [go_sem, hc60], by simp [go_sem, hc61]⟩, ⟨by simp [go_sem, hf60], by simp [go_sem, hf61]⟩, hown6.out.only (hSx _) hne6, hbase, hne6⟩, Only.trans' (Only.ofExt hE5.out) (Only.setCell (S := tch q v) hS6.out (Or.inl (show tch q v q from Or.inl rfl)) _), hat6⟩
  · obtain ⟨g, o, e, hgb, hg, hcell, _⟩ := ho.at_ rfl (by omega)
    have hT := lastT_at hm
    have hc := hcell (m * 3 + 2) (.int .i64 (lastT l)) (by rw [hT, hdList_at l m 2 (by omega) (by omega)]; rfl)
    rw [← hv, hm, e] at a1
    rw [hm] at hca
    have hm0 : (0 : Int) ≤ (m : Int) := by omega
    have hm1 : (m : Int) < (m : Int) + 1 := by omega
    have hm2 : (0 : Int) < (m : Int) + 1 := by omega
    have hmb : (m : Int) ≤ 1000000 := by omega
    rw [← Nat.add_assoc] at hc
    generalize lastT l = T at hc h5
    clear hT hcell ho hv
    go_enter Try.func15, Try.ntmps15
    go_upto_region 1 with (fail)
    refine wp_region_grow (by kernel_rfl) (by kernel_rfl) (by first | (simp only [List.append]; rfl) | rfl) ?_
    (repeat (go_big_quiet_step (fail)))
    refine wpQuiet_nil ?_
    intro wq hq
    obtain ⟨d, rfl⟩ := hq
    go_upto_region 3 with (fail)
    refine wp_gen (fun W => Hid (Ext w W) ∧ Hid (Row W w.heap.size 0 [.int .i64 z.at_, .int .i64 z.n, .int .i64 z.time])) ⟨hid (by repeat (first | (with_reducible exact Ext.refl _) | (with_reducible refine Ext.undrew ?_) | (with_reducible refine Ext.grow ?_ _) | (with_reducible refine Ext.drew ?_) | (with_reducible refine Ext.drewN ?_ _) | (with_reducible refine Ext.alloc ?_ _) | (with_reducible assumption) | ((with_reducible refine Ext.setCell ?_ ?_ _); rotate_left; (first | exact Nat.le_refl _ | ((try dsimp only); (try simp only [World.size_alloc, grow_size, World.size_setCell]); omega))))), hid ((Row.new w _ _).ext (Ext.grow (Ext.refl _) d))⟩ ?_
    rintro W1 ⟨hE1, hR1⟩
    clear hm
    obtain ⟨bx, hbx⟩ : ∃ x, w.heap.size = x := ⟨_, rfl⟩
    rw [hbx] at hR1 ⊢
    have HQ1 := hid (HQ.out.ext hE1.out)
    have hSb : ¬ tch q v bx := by
      rintro (h | h)
      · omega
      · have := (HQ.out.2.2.2.1.lt _ h).2; omega
    refine wp_region_only (S := tch q v) (.rd 0 (.rd 1 (.rd 2 (.rd 3 (.rd 5 (.br 4 (.ac 6 (.ac 7 (.rd 8 (.rd 9 (.ac 10 .done))))) 6 (.ac 4 (.ac 7 (.rd 8 (.rd 9 (.ac 10 .done))))))))))) (by kernel_rfl) (by kernel_rfl) (fun _ _ d _ _ h => by cases d <;> exact h) (by simp only [Ord.map, nthOp, List.append]; rfl) ?_
    intro d1
    have hR5 := hid (hR1.out.ext (Ext.grow (Ext.refl W1) d1))
    have HQ4 := hid (HQ1.out.ext (Ext.grow (Ext.refl W1) d1))
    have hE5 := hid (hE1.out.trans (Ext.grow (Ext.refl W1) d1))
    generalize Go.Proofs.Ytlbemgkdpagoiaa.grow W1 d1 = W4 at hR5 HQ4 hE5 ⊢
    have hc4 := HQ4.out.2.1.2
    have hq3 := HQ4.out.1
    clear hR1 HQ1 hE1 a1
    obtain ⟨i0, z0, hi0, hz0, hz1, hz2, hz3⟩ := held_info
    repeat' (first | (refine only_read (by rfl) (fun K hK => ?_); refine quiet_loadC 29 (.tmp 3) rfl bx 0 rfl [.int .i64 z.at_, .int .i64 z.n, .int .i64 z.time] _ (fun w' hw' => (hR5.out.only hw' hSb).range) Try.underlying29 rfl (by kernel_rfl) ?_; refine hK _ ?_; clear hK K; simp only [Act.put, List.setIfInBounds_toArray, List.set_cons_zero, List.set_cons_succ]) | (refine only_read (by rfl) (fun K hK => ?_); refine quiet_runD 61 rfl (.pointer (some ⟨q, 0, none⟩)) (fun w => by kernel_rfl) ?_; refine hK _ ?_; clear hK K; simp only [Act.put, List.setIfInBounds_toArray, List.set_cons_zero, List.set_cons_succ]) | (refine only_read (by rfl) (fun K hK => ?_); refine quiet_runD 62 rfl (.pointer (some ⟨q, 1, none⟩)) (fun w => by kernel_rfl) ?_; refine hK _ ?_; clear hK K; simp only [Act.put, List.setIfInBounds_toArray, List.set_cons_zero, List.set_cons_succ]) | (refine only_read (by rfl) (fun K hK => ?_); refine quiet_runD 67 rfl (.pointer (some ⟨q, 0, none⟩)) (fun w => by kernel_rfl) ?_; refine hK _ ?_; clear hK K; simp only [Act.put, List.setIfInBounds_toArray, List.set_cons_zero, List.set_cons_succ]) | (refine only_read (by rfl) (fun K hK => ?_); refine quiet_runD 68 rfl (.pointer (some ⟨q, 1, none⟩)) (fun w => by kernel_rfl) ?_; refine hK _ ?_; clear hK K; simp only [Act.put, List.setIfInBounds_toArray, List.set_cons_zero, List.set_cons_succ]) | (refine only_read (by rfl) (fun K hK => ?_); go_big_quiet_op; refine hK _ ?_; clear hK K))
    refine only_br ?_ ?_
    · refine only_act (by rfl) (fun K hK => ?_)
      go_wp2_with fail
      refine ⟨_, Only.refl _ _, Only.refl _ _, ?_⟩
      refine only_act (by rfl) (fun K hK => ?_)
      refine wp_build1 33 29 (.tmp 64) rfl #[.int .i64 z.at_, .int .i64 z.n, .int .i64 z.time] 3 rfl rfl (by omega) (by omega) Try.underlying33 (by kernel_rfl) (by kernel_rfl) ?_
      refine hK _ _ ⟨_, Only.refl _ _, Only.ofExt (Ext.alloc (Ext.refl _) _), ?_⟩
      refine only_gen (fun W => Hid (Ext W4 W) ∧ Hid (Row W W4.heap.size 0 [.int .i64 z.at_, .int .i64 z.n, .int .i64 z.time])) ⟨hid (Ext.alloc (Ext.refl _) _), hid (Row.new W4 _ _)⟩ ?_
      clear hK K
      rintro w4 ⟨hE4, hR4⟩
      have hq4 := hid (HQ4.out.ext hE4.out)
      have hb4 : base ≤ w4.heap.size := by have := hq4.out.1; omega
      have hc5 := hq4.out.2.1.2
      have hS5 : Hid (Only (tch q v) W4 w4) := hid (Only.ofExt hE4.out)
      refine only_act (by rfl) (fun K hK => ?_)
      refine wp_append_at _ (.tmp 63) (.tmp 65) 33 rfl base 29 i0 z0 3 24 Try.underlying33 hi0 hz0 hz2 hz3 hz1 (by omega) v l.length (hdList l) rfl hq4.out.2.2.2.1 ⟨W4.heap.size, 0, none⟩ 1 1 [.int .i64 z.at_, .int .i64 z.n, .int .i64 z.time] rfl rfl (fun j u hj => by rw [Addr.add_lit]; exact hR4.out.range j u hj) (hd_one z) (by unfold maxLen; omega) (by omega) hb4 (by omega) ?_
      intro v6 w6 hown6 hgrow hat
      have hown6 : Hid (ownsAt w6 base 29 3 v6 (l ++ [z]).length (hdList (l ++ [z]))) := hid (by rw [hdList_append, hdList_one, List.length_append]; exact hown6)
      have hS6 : Hid (Only (tch q v) W4 w6) := hid (Only.trans' hS5.out (grownOnly hgrow fun g hg => .inr hg))
      have hne6 : ∀ g, v6.ownBlock = some g → ¬ g = q := fun g h e => by
        rcases hat with h' | ⟨g', h', hlt⟩
        · exact hq4.out.2.2.2.2.2 g (h' ▸ h) e
        · rw [h] at h'; have := hq4.out.1; simp only [Option.some.injEq] at h'; omega
      have hG6 := grownOnly (S := fun i => v.ownBlock = some i) hgrow fun g hg => hg
      have hnq : ¬ v.ownBlock = some q := fun h => hq4.out.2.2.2.2.2 q h rfl
      have hq6 : q < w6.heap.size := Nat.lt_of_lt_of_le hq4.out.1 hG6.size
      have hc60 := (hG6.cells q 0 hq4.out.1 hnq).trans hq4.out.2.1.1
      have hc61 := (hG6.cells q 1 hq4.out.1 hnq).trans hc5
      have hf60 := (hG6.frozens q 0 hq4.out.1 hnq).trans hq4.out.2.2.1.1
      have hf61 := (hG6.frozens q 1 hq4.out.1 hnq).trans hq4.out.2.2.1.2
      obtain ⟨A6, c6, rfl, _, _⟩ := hown6.out.shape
      have hat6 : ∀ g, (Value.slice A6 (l ++ [z]).length c6).ownBlock = some g → v.ownBlock = some g ∨ w.heap.size ≤ g := fun g h => by
        rcases hat with h' | ⟨g', h', hlt⟩
        · exact .inl (h' ▸ h)
        · rw [h] at h'
          simp only [Option.some.injEq] at h'
          have := hE4.out.size
          have := hE5.out.size
          exact .inr (by omega)
      refine hK _ _ ⟨_, Only.refl _ _, hS6.out, ?_⟩
      clear hK K hgrow hG6 hS5 hR4 hE4 hc5 hq4 hat hR5
      simp only [Act.put, List.setIfInBounds_toArray, List.set_cons_zero, List.set_cons_succ]
      repeat' (first | (refine only_read (by rfl) (fun K hK => ?_); refine quiet_runD 61 rfl (.pointer (some ⟨q, 0, none⟩)) (fun w => by kernel_rfl) ?_; refine hK _ ?_; clear hK K; simp only [Act.put, List.setIfInBounds_toArray, List.set_cons_zero, List.set_cons_succ]) | (refine only_read (by rfl) (fun K hK => ?_); refine quiet_runD 62 rfl (.pointer (some ⟨q, 1, none⟩)) (fun w => by kernel_rfl) ?_; refine hK _ ?_; clear hK K; simp only [Act.put, List.setIfInBounds_toArray, List.set_cons_zero, List.set_cons_succ]) | (refine only_read (by rfl) (fun K hK => ?_); refine quiet_runD 67 rfl (.pointer (some ⟨q, 0, none⟩)) (fun w => by kernel_rfl) ?_; refine hK _ ?_; clear hK K; simp only [Act.put, List.setIfInBounds_toArray, List.set_cons_zero, List.set_cons_succ]) | (refine only_read (by rfl) (fun K hK => ?_); refine quiet_runD 68 rfl (.pointer (some ⟨q, 1, none⟩)) (fun w => by kernel_rfl) ?_; refine hK _ ?_; clear hK K; simp only [Act.put, List.setIfInBounds_toArray, List.set_cons_zero, List.set_cons_succ]) | (refine only_read (by rfl) (fun K hK => ?_); go_big_quiet_op; refine hK _ ?_; clear hK K))
      refine only_act (by rfl) (fun K hK => ?_)
      go_wp2_with fail
      refine ⟨_, Only.refl _ _, Only.setCell (S := tch q v) hS6.out (Or.inl (show tch q v q from Or.inl rfl)) _, ?_⟩
      refine only_nil ?_
      have hSx : ∀ u, Only (fun i => i = q) w6 (w6.setCell ⟨q, 1, none⟩ u) := fun u => Only.setCell (S := fun i => i = q) (Only.refl _ _) (.inl rfl) u
      go_wp2
      go_ret
      refine ⟨_, rfl, ⟨by simpa using hq6, ⟨by simp [go_sem, hc60], by simp [go_sem, hc61]⟩, ⟨by simp [go_sem, hf60], by simp [go_sem, hf61]⟩, hown6.out.only (hSx _) hne6, hbase, hne6⟩, Only.trans' (Only.ofExt hE5.out) (Only.setCell (S := tch q v) hS6.out (Or.inl (show tch q v q from Or.inl rfl)) _), hat6⟩
    · refine only_act (by rfl) (fun K hK => ?_)
      refine wp_build1 33 29 (.tmp 64) rfl #[.int .i64 z.at_, .int .i64 z.n, .int .i64 z.time] 3 rfl rfl (by omega) (by omega) Try.underlying33 (by kernel_rfl) (by kernel_rfl) ?_
      refine hK _ _ ⟨_, Only.refl _ _, Only.ofExt (Ext.alloc (Ext.refl _) _), ?_⟩
      refine only_gen (fun W => Hid (Ext W4 W) ∧ Hid (Row W W4.heap.size 0 [.int .i64 z.at_, .int .i64 z.n, .int .i64 z.time])) ⟨hid (Ext.alloc (Ext.refl _) _), hid (Row.new W4 _ _)⟩ ?_
      clear hK K
      rintro w4 ⟨hE4, hR4⟩
      have hq4 := hid (HQ4.out.ext hE4.out)
      have hb4 : base ≤ w4.heap.size := by have := hq4.out.1; omega
      have hc5 := hq4.out.2.1.2
      have hS5 : Hid (Only (tch q v) W4 w4) := hid (Only.ofExt hE4.out)
      refine only_act (by rfl) (fun K hK => ?_)
      go_wp2_with fail
      refine ⟨_, Only.refl _ _, hS5.out, ?_⟩
      refine only_act (by rfl) (fun K hK => ?_)
      refine wp_append_at _ (.tmp 63) (.tmp 65) 33 rfl base 29 i0 z0 3 24 Try.underlying33 hi0 hz0 hz2 hz3 hz1 (by omega) v l.length (hdList l) rfl hq4.out.2.2.2.1 ⟨W4.heap.size, 0, none⟩ 1 1 [.int .i64 z.at_, .int .i64 z.n, .int .i64 z.time] rfl rfl (fun j u hj => by rw [Addr.add_lit]; exact hR4.out.range j u hj) (hd_one z) (by unfold maxLen; omega) (by omega) hb4 (by omega) ?_
      intro v6 w6 hown6 hgrow hat
      have hown6 : Hid (ownsAt w6 base 29 3 v6 (l ++ [z]).length (hdList (l ++ [z]))) := hid (by rw [hdList_append, hdList_one, List.length_append]; exact hown6)
      have hS6 : Hid (Only (tch q v) W4 w6) := hid (Only.trans' hS5.out (grownOnly hgrow fun g hg => .inr hg))
      have hne6 : ∀ g, v6.ownBlock = some g → ¬ g = q := fun g h e => by
        rcases hat with h' | ⟨g', h', hlt⟩
        · exact hq4.out.2.2.2.2.2 g (h' ▸ h) e
        · rw [h] at h'; have := hq4.out.1; simp only [Option.some.injEq] at h'; omega
      have hG6 := grownOnly (S := fun i => v.ownBlock = some i) hgrow fun g hg => hg
      have hnq : ¬ v.ownBlock = some q := fun h => hq4.out.2.2.2.2.2 q h rfl
      have hq6 : q < w6.heap.size := Nat.lt_of_lt_of_le hq4.out.1 hG6.size
      have hc60 := (hG6.cells q 0 hq4.out.1 hnq).trans hq4.out.2.1.1
      have hc61 := (hG6.cells q 1 hq4.out.1 hnq).trans hc5
      have hf60 := (hG6.frozens q 0 hq4.out.1 hnq).trans hq4.out.2.2.1.1
      have hf61 := (hG6.frozens q 1 hq4.out.1 hnq).trans hq4.out.2.2.1.2
      obtain ⟨A6, c6, rfl, _, _⟩ := hown6.out.shape
      have hat6 : ∀ g, (Value.slice A6 (l ++ [z]).length c6).ownBlock = some g → v.ownBlock = some g ∨ w.heap.size ≤ g := fun g h => by
        rcases hat with h' | ⟨g', h', hlt⟩
        · exact .inl (h' ▸ h)
        · rw [h] at h'
          simp only [Option.some.injEq] at h'
          have := hE4.out.size
          have := hE5.out.size
          exact .inr (by omega)
      refine hK _ _ ⟨_, Only.refl _ _, hS6.out, ?_⟩
      clear hK K hgrow hG6 hS5 hR4 hE4 hc5 hq4 hat hR5
      simp only [Act.put, List.setIfInBounds_toArray, List.set_cons_zero, List.set_cons_succ]
      repeat' (first | (refine only_read (by rfl) (fun K hK => ?_); refine quiet_runD 61 rfl (.pointer (some ⟨q, 0, none⟩)) (fun w => by kernel_rfl) ?_; refine hK _ ?_; clear hK K; simp only [Act.put, List.setIfInBounds_toArray, List.set_cons_zero, List.set_cons_succ]) | (refine only_read (by rfl) (fun K hK => ?_); refine quiet_runD 62 rfl (.pointer (some ⟨q, 1, none⟩)) (fun w => by kernel_rfl) ?_; refine hK _ ?_; clear hK K; simp only [Act.put, List.setIfInBounds_toArray, List.set_cons_zero, List.set_cons_succ]) | (refine only_read (by rfl) (fun K hK => ?_); refine quiet_runD 67 rfl (.pointer (some ⟨q, 0, none⟩)) (fun w => by kernel_rfl) ?_; refine hK _ ?_; clear hK K; simp only [Act.put, List.setIfInBounds_toArray, List.set_cons_zero, List.set_cons_succ]) | (refine only_read (by rfl) (fun K hK => ?_); refine quiet_runD 68 rfl (.pointer (some ⟨q, 1, none⟩)) (fun w => by kernel_rfl) ?_; refine hK _ ?_; clear hK K; simp only [Act.put, List.setIfInBounds_toArray, List.set_cons_zero, List.set_cons_succ]) | (refine only_read (by rfl) (fun K hK => ?_); go_big_quiet_op; refine hK _ ?_; clear hK K))
      refine only_act (by rfl) (fun K hK => ?_)
      go_wp2_with fail
      refine ⟨_, Only.refl _ _, Only.setCell (S := tch q v) hS6.out (Or.inl (show tch q v q from Or.inl rfl)) _, ?_⟩
      refine only_nil ?_
      have hSx : ∀ u, Only (fun i => i = q) w6 (w6.setCell ⟨q, 1, none⟩ u) := fun u => Only.setCell (S := fun i => i = q) (Only.refl _ _) (.inl rfl) u
      go_wp2
      go_ret
      refine ⟨_, rfl, ⟨by simpa using hq6, ⟨by simp [go_sem, hc60], by simp [go_sem, hc61]⟩, ⟨by simp [go_sem, hf60], by simp [go_sem, hf61]⟩, hown6.out.only (hSx _) hne6, hbase, hne6⟩, Only.trans' (Only.ofExt hE5.out) (Only.setCell (S := tch q v) hS6.out (Or.inl (show tch q v q from Or.inl rfl)) _), hat6⟩

end Go.Proofs.Ytlbemgkdpagoiaa
