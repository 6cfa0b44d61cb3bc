/- Layer 13: Put that is done. -/
import Derived.Test.YtlbemgkdpagoiaaQuaB
namespace Go.Proofs.Ytlbemgkdpagoiaa
set_option linter.unusedSimpArgs false
set_option linter.unusedVariables false
open Go.RowKit

theorem quiet_loadC {P : Program} {o : Oper} {a : Act} {C : World → Prop} {K : Act → Prop} (ty : TypeId) (x : Operand) (ho : o.op = .load ty x) (b off : Nat) (hx : a.eval x = .pointer (some ⟨b, off, none⟩)) (cs : List Value) (d : TypeDesc)
    (hc : ∀ w', C w' → w'.rangeAt b off cs) (hu : P.underlying ty = some d) (hd : d.isRow = true) (hi : (P.info? ty).map (·.size) = some cs.length) (k : K (a.put o.dst (.agg cs.toArray))) : o.quiet P a C K := by
  refine ⟨_, fun w' hw' => ?_, k⟩
  unfold Oper.quietAt execOp
  rw [ho]
  simp only [hx, run_loadAt_mid w' b off ty cs d (hc w' hw') hu hd hi, Sem.run_bind, Sem.run_map, Sem.run_pure, Result.andThen, Oper.quietUpon, and_self]
theorem quiet_runD {P : Program} {o : Oper} {a : Act} {C : World → Prop} {K : Act → Prop} (d : Nat) (_ : o.dst = some d) (v : Value) (h : ∀ w, (execOp a.eval o).run P w = .ok (.value v) w) (k : K (a.put o.dst v)) : o.quiet P a C K := quiet_run v h k
theorem only_gen {S : Nat → Prop} {P : Program} {ops : Array Oper} {Q : Exit → Act → World → Prop} {r : Ord Oper} {W : World} {a : Act} {w : World} (I : World → Prop) (hI : I w) (h : ∀ w', I w' → wpOnly S P ops Q r W a w') : wpOnly S P ops Q r W a w := h w hI
theorem wp_gen {P : Program} {a : Act} {Q : Exit → Act → World → Prop} {c : Code} {w : World} (I : World → Prop) (hI : I w) (h : ∀ w', I w' → c.wp P Q a w') : c.wp P Q a w := h w hI
theorem Row.new (w : World) (cs : Array Value) (T : TypeId) : Row (w.alloc (.cells cs T)) w.heap.size 0 cs.toList :=
  ⟨by simp, fun j v hj => by simp [go_sem]; simpa using hj, fun j hj => by simp [go_sem]⟩
def tch (q : Nat) (v : Value) : Nat → Prop := fun i => i = q ∨ v.ownBlock = some i
theorem grownOnly {S : Nat → Prop} {w w' : World} {row : Option Nat} (h : w.grownBy w' row) (hs : ∀ g, row = some g → S g) : Only S w w' :=
  ⟨h.os, h.tape, h.output, h.size, fun k hk hn => h.block k hk fun e => hn (hs k e.symm)⟩
theorem held_info : ∃ i z, Try.prog.info? 29 = some i ∧ i.zero = some z ∧ z.cells.size = 3 ∧ i.size = 3 ∧ i.bytes = 24 := by
  have h : (Try.prog.info? 29).map (fun i => (i.zero.map (fun z => z.cells.size), i.size, i.bytes)) = some (some 3, 3, 24) := by kernel_rfl
  cases hq : Try.prog.info? 29 with
  | none => simp [hq] at h
  | some i =>
    cases hz : i.zero with
    | none => simp [hq, hz] at h
    | some z => exact ⟨i, z, rfl, hz, by simpa [hq, hz] using h⟩
set_option maxRecDepth 100000 in
set_option maxHeartbeats 4000000 in
theorem qput_ (q base : Nat) (full bytes : Int) (v : Value) (l : List Hd) (w : World) (h : Qs w q base full bytes v l) (hl : l.length ≤ 1000000) (z : Hd) (hok : okQ l z = true) (hwb : wrap64 (bytes + z.n) = bytes + z.n) :
    Calls Try.prog 14 #[.pointer (some ⟨q, 0, none⟩), .agg #[.int .i64 z.at_, .int .i64 z.n, .int .i64 z.time]] w fun e w' => ∃ v', e = .returned (.bool true) ∧ Qs w' q base full (bytes + z.n) v' (l ++ [z]) ∧ Only (tch q v) w w' ∧ (∀ g, v'.ownBlock = some g → v.ownBlock = some g ∨ w.heap.size ≤ g) := by
  have HQ := hid h
  have HWB := hid hwb
  have hq := h.1
  clear h hwb
  unfold okQ at hok
  obtain ⟨⟨⟨h1, h2⟩, h3⟩, h4⟩ : (((decide (0 ≤ z.at_) && decide (z.at_ ≤ 16777216)) = true ∧ (decide (0 ≤ z.n) && decide (z.n ≤ 16777216)) = true) ∧ ¬ z.time < lastT l) ∧ ¬ (2199023255552 : Int) < z.time := by
    simpa only [Bool.and_eq_true, Bool.not_eq_true', decide_eq_false_iff_not, decide_eq_true_eq] using hok
  have hs : ∀ w', Ext w w' → Calls Try.prog 32 #[.pointer (some ⟨q, 0, none⟩)] w' fun e w'' => e = .returned (.int .i64 (lastT l)) ∧ Ext w' w'' := fun w' hx => qsince_ q base full bytes v l w' (HQ.out.ext hx) hl
  have hw1 : ∀ w', Calls Try.prog 31 #[.int .i64 z.at_] w' fun e w'' => e = .returned (.bool true) ∧ w' = w'' := fun w' => by rw [← h1]; exact (within_ z.at_ w').mono (fun e w'' h => ⟨h.1, h.2.symm⟩)
  have hw2 : ∀ w', Calls Try.prog 31 #[.int .i64 z.n] w' fun e w'' => e = .returned (.bool true) ∧ w' = w'' := fun w' => by rw [← h2]; exact (within_ z.n w').mono (fun e w'' h => ⟨h.1, h.2.symm⟩)
  obtain ⟨bx, hbx⟩ : ∃ x, w.heap.size = x := ⟨_, rfl⟩
  go_enter Try.func14, Try.ntmps14
  go_upto_region 1 with (fail)
  refine wp_region_grow (by kernel_rfl) (by kernel_rfl) (by first | (simp only [List.append]; rfl) | rfl) ?_
  (repeat (go_big_quiet_step (first | (go_at_call 31; exact growOfSame (hw1 _)) | (go_at_call 31; exact growOfSame (hw2 _)) | (go_at_call 32; exact growOf (hs _ (by repeat (first | (with_reducible exact Ext.refl _) | (with_reducible refine Ext.undrew ?_) | (with_reducible refine Ext.grow ?_ _) | (with_reducible refine Ext.drew ?_) | (with_reducible refine Ext.drewN ?_ _) | (with_reducible refine Ext.alloc ?_ _) | (with_reducible assumption) | ((with_reducible refine Ext.setCell ?_ ?_ _); rotate_left; (first | exact Nat.le_refl _ | ((try dsimp only); (try simp only [World.size_alloc, grow_size, World.size_setCell]); omega))))))))))
  refine wpQuiet_nil ?_
  intro wq hq
  obtain ⟨d, rfl⟩ := hq
  go_upto_region 3 with (fail)
  refine wp_gen (fun W => Hid (Ext w W) ∧ Hid (Row W w.heap.size 0 [.int .i64 z.at_, .int .i64 z.n, .int .i64 z.time])) ⟨hid (by repeat (first | (with_reducible exact Ext.refl _) | (with_reducible refine Ext.undrew ?_) | (with_reducible refine Ext.grow ?_ _) | (with_reducible refine Ext.drew ?_) | (with_reducible refine Ext.drewN ?_ _) | (with_reducible refine Ext.alloc ?_ _) | (with_reducible assumption) | ((with_reducible refine Ext.setCell ?_ ?_ _); rotate_left; (first | exact Nat.le_refl _ | ((try dsimp only); (try simp only [World.size_alloc, grow_size, World.size_setCell]); omega))))), hid ((Row.new w _ _).ext (Ext.grow (Ext.refl _) d))⟩ ?_
  rintro W1 ⟨hE1, hR1⟩
  rw [hbx] at hR1
  clear hs hw1 hw2 h1 h2 h3 h4 hok
  have HQ1 := hid (HQ.out.ext hE1.out)
  have hSb : ¬ tch q v bx := by
    rintro (h | h)
    · omega
    · have := (HQ.out.2.2.2.1.lt _ h).2; omega
  refine wp_region_only (S := tch q v) (.rd 0 (.rd 1 (.rd 2 (.rd 3 (.rd 5 (.br 4 (.ac 6 (.ac 7 (.rd 8 (.rd 9 (.ac 10 .done))))) 6 (.ac 4 (.ac 7 (.rd 8 (.rd 9 (.ac 10 .done))))))))))) (by kernel_rfl) (by kernel_rfl) (fun _ _ d _ _ h => by cases d <;> exact h) (by simp only [Ord.map, nthOp, List.append]; rfl) ?_
  intro d1
  have hR5 := hid (hR1.out.ext (Ext.grow (Ext.refl W1) d1))
  have HQ4 := hid (HQ1.out.ext (Ext.grow (Ext.refl W1) d1))
  have hE5 := hid (hE1.out.trans (Ext.grow (Ext.refl W1) d1))
  generalize Go.Proofs.Ytlbemgkdpagoiaa.grow W1 d1 = W4 at hR5 HQ4 hE5 ⊢
  have hc4 := HQ4.out.2.1.2.2
  have hq3 := HQ4.out.1
  clear hR1 HQ1 hE1
  obtain ⟨i0, z0, hi0, hz0, hz1, hz2, hz3⟩ := held_info
  repeat' (first | (refine only_read (by rfl) (fun K hK => ?_); refine quiet_loadC 29 (.tmp 3) rfl bx 0 rfl [.int .i64 z.at_, .int .i64 z.n, .int .i64 z.time] _ (fun w' hw' => (hR5.out.only hw' hSb).range) Try.underlying29 rfl (by kernel_rfl) ?_; refine hK _ ?_; clear hK K; simp only [Act.put, List.setIfInBounds_toArray, List.set_cons_zero, List.set_cons_succ]) | (refine only_read (by rfl) (fun K hK => ?_); refine quiet_runD 29 rfl (.pointer (some ⟨q, 0, none⟩)) (fun w => by kernel_rfl) ?_; refine hK _ ?_; clear hK K; simp only [Act.put, List.setIfInBounds_toArray, List.set_cons_zero, List.set_cons_succ]) | (refine only_read (by rfl) (fun K hK => ?_); refine quiet_runD 30 rfl (.pointer (some ⟨q, 2, none⟩)) (fun w => by kernel_rfl) ?_; refine hK _ ?_; clear hK K; simp only [Act.put, List.setIfInBounds_toArray, List.set_cons_zero, List.set_cons_succ]) | (refine only_read (by rfl) (fun K hK => ?_); refine quiet_runD 35 rfl (.pointer (some ⟨q, 0, none⟩)) (fun w => by kernel_rfl) ?_; refine hK _ ?_; clear hK K; simp only [Act.put, List.setIfInBounds_toArray, List.set_cons_zero, List.set_cons_succ]) | (refine only_read (by rfl) (fun K hK => ?_); refine quiet_runD 36 rfl (.pointer (some ⟨q, 2, none⟩)) (fun w => by kernel_rfl) ?_; refine hK _ ?_; clear hK K; simp only [Act.put, List.setIfInBounds_toArray, List.set_cons_zero, List.set_cons_succ]) | (refine only_read (by rfl) (fun K hK => ?_); go_big_quiet_op; refine hK _ ?_; clear hK K))
  refine only_br ?_ ?_
  · refine only_act (by rfl) (fun K hK => ?_)
    go_wp2_with fail
    refine ⟨_, Only.refl _ _, Only.refl _ _, ?_⟩
    refine only_act (by rfl) (fun K hK => ?_)
    refine wp_build1 33 29 (.tmp 32) rfl #[.int .i64 z.at_, .int .i64 z.n, .int .i64 z.time] 3 rfl rfl (by omega) (by omega) Try.underlying33 (by kernel_rfl) (by kernel_rfl) ?_
    refine hK _ _ ⟨_, Only.refl _ _, Only.ofExt (Ext.alloc (Ext.refl _) _), ?_⟩
    refine only_gen (fun W => Hid (Ext W4 W) ∧ Hid (Row W W4.heap.size 0 [.int .i64 z.at_, .int .i64 z.n, .int .i64 z.time])) ⟨hid (Ext.alloc (Ext.refl _) _), hid (Row.new W4 _ _)⟩ ?_
    clear hK K
    rintro w4 ⟨hE4, hR4⟩
    have hq4 := hid (HQ4.out.ext hE4.out)
    have hb4 : base ≤ w4.heap.size := by have := hq4.out.1; have := hq4.out.2.2.2.2.1; omega
    have hc5 := hq4.out.2.1.2.2
    have hS5 : Hid (Only (tch q v) W4 w4) := hid (Only.ofExt hE4.out)
    refine only_act (by rfl) (fun K hK => ?_)
    refine wp_append_at _ (.tmp 31) (.tmp 33) 33 rfl base 29 i0 z0 3 24 Try.underlying33 hi0 hz0 hz2 hz3 hz1 (by omega) v l.length (hdList l) rfl hq4.out.2.2.2.1 ⟨W4.heap.size, 0, none⟩ 1 1 [.int .i64 z.at_, .int .i64 z.n, .int .i64 z.time] rfl rfl (fun j u hj => by rw [Addr.add_lit]; exact hR4.out.range j u hj) (hd_one z) (by unfold maxLen; omega) (by omega) hb4 (by omega) ?_
    intro v6 w6 hown6 hgrow hat
    have hown6 : Hid (ownsAt w6 base 29 3 v6 (l ++ [z]).length (hdList (l ++ [z]))) := hid (by rw [hdList_append, hdList_one, List.length_append]; exact hown6)
    have hS6 : Hid (Only (tch q v) W4 w6) := hid (Only.trans' hS5.out (grownOnly hgrow fun g hg => .inr hg))
    have hne6 : ∀ g, v6.ownBlock = some g → ¬ g = q := fun g h e => by
      rcases hat with h' | ⟨g', h', hlt⟩
      · exact hq4.out.2.2.2.2.2 g (h' ▸ h) e
      · rw [h] at h'; have := hq4.out.1; simp only [Option.some.injEq] at h'; omega
    have hG6 := grownOnly (S := fun i => v.ownBlock = some i) hgrow fun g hg => hg
    have hnq : ¬ v.ownBlock = some q := fun h => hq4.out.2.2.2.2.2 q h rfl
    have hq6 : q < w6.heap.size := Nat.lt_of_lt_of_le hq4.out.1 hG6.size
    have hc60 := (hG6.cells q 0 hq4.out.1 hnq).trans hq4.out.2.1.1
    have hc61 := (hG6.cells q 1 hq4.out.1 hnq).trans hq4.out.2.1.2.1
    have hc62 := (hG6.cells q 2 hq4.out.1 hnq).trans hc5
    have hf60 := (hG6.frozens q 0 hq4.out.1 hnq).trans hq4.out.2.2.1.1
    have hf61 := (hG6.frozens q 1 hq4.out.1 hnq).trans hq4.out.2.2.1.2.1
    have hf62 := (hG6.frozens q 2 hq4.out.1 hnq).trans hq4.out.2.2.1.2.2
    have hR6 := hid (hR5.out.only hS6.out hSb)
    obtain ⟨A6, c6, rfl, _, _⟩ := hown6.out.shape
    have hat6 : ∀ g, (Value.slice A6 (l ++ [z]).length c6).ownBlock = some g → v.ownBlock = some g ∨ W4.heap.size ≤ g := fun g h => by
      rcases hat with h' | ⟨g', h', hlt⟩
      · exact .inl (h' ▸ h)
      · rw [h] at h'
        simp only [Option.some.injEq] at h'
        have := hE4.out.size
        exact .inr (by omega)
    refine hK _ _ ⟨_, Only.refl _ _, hS6.out, ?_⟩
    clear hK K hgrow hG6 hS5 hR4 hE4 hc5 hq4 hat hR5
    simp only [Act.put, List.setIfInBounds_toArray, List.set_cons_zero, List.set_cons_succ]
    repeat' (first | (refine only_read (by rfl) (fun K hK => ?_); refine quiet_runD 29 rfl (.pointer (some ⟨q, 0, none⟩)) (fun w => by kernel_rfl) ?_; refine hK _ ?_; clear hK K; simp only [Act.put, List.setIfInBounds_toArray, List.set_cons_zero, List.set_cons_succ]) | (refine only_read (by rfl) (fun K hK => ?_); refine quiet_runD 30 rfl (.pointer (some ⟨q, 2, none⟩)) (fun w => by kernel_rfl) ?_; refine hK _ ?_; clear hK K; simp only [Act.put, List.setIfInBounds_toArray, List.set_cons_zero, List.set_cons_succ]) | (refine only_read (by rfl) (fun K hK => ?_); refine quiet_runD 35 rfl (.pointer (some ⟨q, 0, none⟩)) (fun w => by kernel_rfl) ?_; refine hK _ ?_; clear hK K; simp only [Act.put, List.setIfInBounds_toArray, List.set_cons_zero, List.set_cons_succ]) | (refine only_read (by rfl) (fun K hK => ?_); refine quiet_runD 36 rfl (.pointer (some ⟨q, 2, none⟩)) (fun w => by kernel_rfl) ?_; refine hK _ ?_; clear hK K; simp only [Act.put, List.setIfInBounds_toArray, List.set_cons_zero, List.set_cons_succ]) | (refine only_read (by rfl) (fun K hK => ?_); go_big_quiet_op; refine hK _ ?_; clear hK K))
    refine only_act (by rfl) (fun K hK => ?_)
    go_wp2_with fail
    refine ⟨_, Only.refl _ _, Only.setCell (S := tch q v) hS6.out (Or.inl (show tch q v q from Or.inl rfl)) _, ?_⟩
    refine only_nil ?_
    go_upto_region 4 with (fail)
    have hSx : ∀ u, Only (fun i => i = q) w6 (w6.setCell ⟨q, 2, none⟩ u) := fun u => Only.setCell (S := fun i => i = q) (Only.refl _ _) (.inl rfl) u
    have hbq : ¬ bx = q := by omega
    refine wp_gen (fun W => Hid (Qs W q base full bytes (.slice A6 (l ++ [z]).length c6) (l ++ [z])) ∧ Hid (Only (tch q v) w W) ∧ Hid (Row W bx 0 [.int .i64 z.at_, .int .i64 z.n, .int .i64 z.time])) ⟨hid ⟨by simpa using hq6, ⟨by simp [go_sem, hc60], by simp [go_sem, hc61], by simp [go_sem, hc62]⟩, ⟨by simp [go_sem, hf60], by simp [go_sem, hf61], by simp [go_sem, hf62]⟩, hown6.out.only (hSx _) hne6, HQ.out.2.2.2.2.1, hne6⟩, hid (Only.trans' (Only.ofExt hE5.out) (Only.setCell (S := tch q v) hS6.out (Or.inl (show tch q v q from Or.inl rfl)) _)), hid (hR6.out.only (hSx _) hbq)⟩ ?_
    clear hc60 hc61 hc62 hf60 hf61 hf62 hown6 hS6 hR6 hSx hq6
    rintro W7 ⟨hQ7, hO7, hR7⟩
    refine wp_region_turn (q := q) (.rd 0 (.rd 1 (.rd 2 (.rd 4 (.rd 5 (.ac 3 (.rd 6 (.rd 7 (.rd 8 (.ac 9 .done)))))))))) (by kernel_rfl) (by kernel_rfl) (fun _ _ d _ _ h => by cases d <;> exact h) (by simp only [Ord.map, nthOp, List.append]; rfl) ?_
    intro d2
    have hQ8 := hid (hQ7.out.ext (Ext.grow (Ext.refl W7) d2))
    have hO8 := hid (Only.transExt hO7.out (Ext.grow (Ext.refl W7) d2))
    have hR8 := hid (hR7.out.ext (Ext.grow (Ext.refl W7) d2))
    generalize Go.Proofs.Ytlbemgkdpagoiaa.grow W7 d2 = W8 at hQ8 hO8 hR8 ⊢
    clear hQ7 hO7 hR7
    have hn8 : W8.cell? ⟨bx, 1, none⟩ = some (.int .i64 z.n) := by have := hR8.out.at_ 1 _ rfl; simpa using this
    have hbl : bx < W8.heap.size := hR8.out.lt
    have hq8 := hQ8.out.1
    have hb8 := hQ8.out.2.1.2.1
    have hf8 := hQ8.out.2.2.1.2.1
    have hwb := HWB.out
    repeat' (first | (refine turn_read (by rfl) (fun K hK => ?_); go_big_quiet_op; refine hK _ ?_; clear hK K) | (refine turn_act (by rfl) (fun K hK => ?_); go_wp2_with fail; refine ⟨_, Only.refl _ _, (by first | exact Only.refl _ _ | exact Only.setCell (S := fun i => i = q) (Only.refl _ _) (.inl rfl) _), ?_⟩))
    refine turn_nil ?_
    go_wp2
    go_ret
    have hSy : ∀ u, Only (fun i => i = q) W8 (W8.setCell ⟨q, 1, none⟩ u) := fun u => Only.setCell (S := fun i => i = q) (Only.refl _ _) (.inl rfl) u
    have h80 := hQ8.out.2.1.1
    have h82 := hQ8.out.2.1.2.2
    have k80 := hQ8.out.2.2.1.1
    have k82 := hQ8.out.2.2.1.2.2
    refine ⟨_, rfl, ⟨by simpa using hq8, ⟨by simp [go_sem, h80], by simp [go_sem, hb8], by simp [go_sem, h82]⟩, ⟨by simp [go_sem, k80], by simp [go_sem, hf8], by simp [go_sem, k82]⟩, hQ8.out.2.2.2.1.only (hSy _) hne6, hQ8.out.2.2.2.2⟩, Only.setCell (S := tch q v) hO8.out (Or.inl (show tch q v q from Or.inl rfl)) _, fun g h => (hat6 g h).imp_right fun h => Nat.le_trans hE5.out.size h⟩
  · refine only_act (by rfl) (fun K hK => ?_)
    refine wp_build1 33 29 (.tmp 32) rfl #[.int .i64 z.at_, .int .i64 z.n, .int .i64 z.time] 3 rfl rfl (by omega) (by omega) Try.underlying33 (by kernel_rfl) (by kernel_rfl) ?_
    refine hK _ _ ⟨_, Only.refl _ _, Only.ofExt (Ext.alloc (Ext.refl _) _), ?_⟩
    refine only_gen (fun W => Hid (Ext W4 W) ∧ Hid (Row W W4.heap.size 0 [.int .i64 z.at_, .int .i64 z.n, .int .i64 z.time])) ⟨hid (Ext.alloc (Ext.refl _) _), hid (Row.new W4 _ _)⟩ ?_
    clear hK K
    rintro w4 ⟨hE4, hR4⟩
    have hq4 := hid (HQ4.out.ext hE4.out)
    have hb4 : base ≤ w4.heap.size := by have := hq4.out.1; have := hq4.out.2.2.2.2.1; omega
    have hc5 := hq4.out.2.1.2.2
    have hS5 : Hid (Only (tch q v) W4 w4) := hid (Only.ofExt hE4.out)
    refine only_act (by rfl) (fun K hK => ?_)
    go_wp2_with fail
    refine ⟨_, Only.refl _ _, hS5.out, ?_⟩
    refine only_act (by rfl) (fun K hK => ?_)
    refine wp_append_at _ (.tmp 31) (.tmp 33) 33 rfl base 29 i0 z0 3 24 Try.underlying33 hi0 hz0 hz2 hz3 hz1 (by omega) v l.length (hdList l) rfl hq4.out.2.2.2.1 ⟨W4.heap.size, 0, none⟩ 1 1 [.int .i64 z.at_, .int .i64 z.n, .int .i64 z.time] rfl rfl (fun j u hj => by rw [Addr.add_lit]; exact hR4.out.range j u hj) (hd_one z) (by unfold maxLen; omega) (by omega) hb4 (by omega) ?_
    intro v6 w6 hown6 hgrow hat
    have hown6 : Hid (ownsAt w6 base 29 3 v6 (l ++ [z]).length (hdList (l ++ [z]))) := hid (by rw [hdList_append, hdList_one, List.length_append]; exact hown6)
    have hS6 : Hid (Only (tch q v) W4 w6) := hid (Only.trans' hS5.out (grownOnly hgrow fun g hg => .inr hg))
    have hne6 : ∀ g, v6.ownBlock = some g → ¬ g = q := fun g h e => by
      rcases hat with h' | ⟨g', h', hlt⟩
      · exact hq4.out.2.2.2.2.2 g (h' ▸ h) e
      · rw [h] at h'; have := hq4.out.1; simp only [Option.some.injEq] at h'; omega
    have hG6 := grownOnly (S := fun i => v.ownBlock = some i) hgrow fun g hg => hg
    have hnq : ¬ v.ownBlock = some q := fun h => hq4.out.2.2.2.2.2 q h rfl
    have hq6 : q < w6.heap.size := Nat.lt_of_lt_of_le hq4.out.1 hG6.size
    have hc60 := (hG6.cells q 0 hq4.out.1 hnq).trans hq4.out.2.1.1
    have hc61 := (hG6.cells q 1 hq4.out.1 hnq).trans hq4.out.2.1.2.1
    have hc62 := (hG6.cells q 2 hq4.out.1 hnq).trans hc5
    have hf60 := (hG6.frozens q 0 hq4.out.1 hnq).trans hq4.out.2.2.1.1
    have hf61 := (hG6.frozens q 1 hq4.out.1 hnq).trans hq4.out.2.2.1.2.1
    have hf62 := (hG6.frozens q 2 hq4.out.1 hnq).trans hq4.out.2.2.1.2.2
    have hR6 := hid (hR5.out.only hS6.out hSb)
    obtain ⟨A6, c6, rfl, _, _⟩ := hown6.out.shape
    have hat6 : ∀ g, (Value.slice A6 (l ++ [z]).length c6).ownBlock = some g → v.ownBlock = some g ∨ W4.heap.size ≤ g := fun g h => by
      rcases hat with h' | ⟨g', h', hlt⟩
      · exact .inl (h' ▸ h)
      · rw [h] at h'
        simp only [Option.some.injEq] at h'
        have := hE4.out.size
        exact .inr (by omega)
    refine hK _ _ ⟨_, Only.refl _ _, hS6.out, ?_⟩
    clear hK K hgrow hG6 hS5 hR4 hE4 hc5 hq4 hat hR5
    simp only [Act.put, List.setIfInBounds_toArray, List.set_cons_zero, List.set_cons_succ]
    repeat' (first | (refine only_read (by rfl) (fun K hK => ?_); refine quiet_runD 29 rfl (.pointer (some ⟨q, 0, none⟩)) (fun w => by kernel_rfl) ?_; refine hK _ ?_; clear hK K; simp only [Act.put, List.setIfInBounds_toArray, List.set_cons_zero, List.set_cons_succ]) | (refine only_read (by rfl) (fun K hK => ?_); refine quiet_runD 30 rfl (.pointer (some ⟨q, 2, none⟩)) (fun w => by kernel_rfl) ?_; refine hK _ ?_; clear hK K; simp only [Act.put, List.setIfInBounds_toArray, List.set_cons_zero, List.set_cons_succ]) | (refine only_read (by rfl) (fun K hK => ?_); refine quiet_runD 35 rfl (.pointer (some ⟨q, 0, none⟩)) (fun w => by kernel_rfl) ?_; refine hK _ ?_; clear hK K; simp only [Act.put, List.setIfInBounds_toArray, List.set_cons_zero, List.set_cons_succ]) | (refine only_read (by rfl) (fun K hK => ?_); refine quiet_runD 36 rfl (.pointer (some ⟨q, 2, none⟩)) (fun w => by kernel_rfl) ?_; refine hK _ ?_; clear hK K; simp only [Act.put, List.setIfInBounds_toArray, List.set_cons_zero, List.set_cons_succ]) | (refine only_read (by rfl) (fun K hK => ?_); go_big_quiet_op; refine hK _ ?_; clear hK K))
    refine only_act (by rfl) (fun K hK => ?_)
    go_wp2_with fail
    refine ⟨_, Only.refl _ _, Only.setCell (S := tch q v) hS6.out (Or.inl (show tch q v q from Or.inl rfl)) _, ?_⟩
    refine only_nil ?_
    go_upto_region 4 with (fail)
    have hSx : ∀ u, Only (fun i => i = q) w6 (w6.setCell ⟨q, 2, none⟩ u) := fun u => Only.setCell (S := fun i => i = q) (Only.refl _ _) (.inl rfl) u
    have hbq : ¬ bx = q := by omega
    refine wp_gen (fun W => Hid (Qs W q base full bytes (.slice A6 (l ++ [z]).length c6) (l ++ [z])) ∧ Hid (Only (tch q v) w W) ∧ Hid (Row W bx 0 [.int .i64 z.at_, .int .i64 z.n, .int .i64 z.time])) ⟨hid ⟨by simpa using hq6, ⟨by simp [go_sem, hc60], by simp [go_sem, hc61], by simp [go_sem, hc62]⟩, ⟨by simp [go_sem, hf60], by simp [go_sem, hf61], by simp [go_sem, hf62]⟩, hown6.out.only (hSx _) hne6, HQ.out.2.2.2.2.1, hne6⟩, hid (Only.trans' (Only.ofExt hE5.out) (Only.setCell (S := tch q v) hS6.out (Or.inl (show tch q v q from Or.inl rfl)) _)), hid (hR6.out.only (hSx _) hbq)⟩ ?_
    clear hc60 hc61 hc62 hf60 hf61 hf62 hown6 hS6 hR6 hSx hq6
    rintro W7 ⟨hQ7, hO7, hR7⟩
    refine wp_region_turn (q := q) (.rd 0 (.rd 1 (.rd 2 (.rd 4 (.rd 5 (.ac 3 (.rd 6 (.rd 7 (.rd 8 (.ac 9 .done)))))))))) (by kernel_rfl) (by kernel_rfl) (fun _ _ d _ _ h => by cases d <;> exact h) (by simp only [Ord.map, nthOp, List.append]; rfl) ?_
    intro d2
    have hQ8 := hid (hQ7.out.ext (Ext.grow (Ext.refl W7) d2))
    have hO8 := hid (Only.transExt hO7.out (Ext.grow (Ext.refl W7) d2))
    have hR8 := hid (hR7.out.ext (Ext.grow (Ext.refl W7) d2))
    generalize Go.Proofs.Ytlbemgkdpagoiaa.grow W7 d2 = W8 at hQ8 hO8 hR8 ⊢
    clear hQ7 hO7 hR7
    have hn8 : W8.cell? ⟨bx, 1, none⟩ = some (.int .i64 z.n) := by have := hR8.out.at_ 1 _ rfl; simpa using this
    have hbl : bx < W8.heap.size := hR8.out.lt
    have hq8 := hQ8.out.1
    have hb8 := hQ8.out.2.1.2.1
    have hf8 := hQ8.out.2.2.1.2.1
    have hwb := HWB.out
    repeat' (first | (refine turn_read (by rfl) (fun K hK => ?_); go_big_quiet_op; refine hK _ ?_; clear hK K) | (refine turn_act (by rfl) (fun K hK => ?_); go_wp2_with fail; refine ⟨_, Only.refl _ _, (by first | exact Only.refl _ _ | exact Only.setCell (S := fun i => i = q) (Only.refl _ _) (.inl rfl) _), ?_⟩))
    refine turn_nil ?_
    go_wp2
    go_ret
    have hSy : ∀ u, Only (fun i => i = q) W8 (W8.setCell ⟨q, 1, none⟩ u) := fun u => Only.setCell (S := fun i => i = q) (Only.refl _ _) (.inl rfl) u
    have h80 := hQ8.out.2.1.1
    have h82 := hQ8.out.2.1.2.2
    have k80 := hQ8.out.2.2.1.1
    have k82 := hQ8.out.2.2.1.2.2
    refine ⟨_, rfl, ⟨by simpa using hq8, ⟨by simp [go_sem, h80], by simp [go_sem, hb8], by simp [go_sem, h82]⟩, ⟨by simp [go_sem, k80], by simp [go_sem, hf8], by simp [go_sem, k82]⟩, hQ8.out.2.2.2.1.only (hSy _) hne6, hQ8.out.2.2.2.2⟩, Only.setCell (S := tch q v) hO8.out (Or.inl (show tch q v q from Or.inl rfl)) _, fun g h => (hat6 g h).imp_right fun h => Nat.le_trans hE5.out.size h⟩

end Go.Proofs.Ytlbemgkdpagoiaa
