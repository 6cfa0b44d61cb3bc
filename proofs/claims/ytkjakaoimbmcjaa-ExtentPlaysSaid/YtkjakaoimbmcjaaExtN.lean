/- Layer 12: Give. -/
import Derived.Test.YtkjakaoimbmcjaaExtM
import Derived.Test.YtkjakaoimbmcjaaStepO
import Derived.Great.BuildSlice
namespace Go.Proofs.Ytkjakaoimbmcjaa
set_option linter.unusedSimpArgs false
set_option linter.unusedVariables false
open Go.RowKit

theorem srch_uniq {l : List Pr} {x : Int} {k k' : Nat} (h1 : ∀ (j : Nat) (hj : j < l.length), j < k → (l[j]).hi ≤ x) (h2 : ∀ hk : k < l.length, x < (l[k]).hi) (h3 : k ≤ l.length)
    (h1' : ∀ (j : Nat) (hj : j < l.length), j < k' → (l[j]).hi ≤ x) (h2' : ∀ hk : k' < l.length, x < (l[k']).hi) (h3' : k' ≤ l.length) : k = k' := by
  rcases Nat.lt_trichotomy k k' with h | h | h
  · have a := h1' k (by omega) h
    have b := h2 (by omega)
    omega
  · exact h
  · have a := h1 k' (by omega) h
    have b := h2' (by omega)
    omega
set_option maxRecDepth 100000 in
set_option maxHeartbeats 4000000 in
theorem give_n6 (q base : Nat) (fr to : Int) (v : Value) (l : List Pr) (w : World) (h : Fr w q base fr to v l) (at_ n : Int) (hg : [at_, n].all g16 = true) (hb0 : 0 ≤ fr) (hb1 : to ≤ 16777216) (h0 : 1 ≤ n) (h1 : fr ≤ at_) (h2 : at_ ≤ to) (h3 : n ≤ to - at_) (hl9 : l.length ≤ 10000000)
    (hmono : ∀ (a b : Nat) (hb : b < l.length) (hab : a ≤ b), at_ < (l[a]'(by omega)).hi → at_ < (l[b]).hi) (k : Nat) (hkl : k ≤ l.length) (hlow : ∀ (j : Nat) (hj : j < l.length), j < k → (l[j]).hi ≤ at_) (hhigh : ∀ hk : k < l.length, at_ < (l[k]).hi) (hk : k < l.length) (hov : (l[k]).lo < at_ + n) : Calls Try.prog 13 #[.pointer (some ⟨q, 0, none⟩), .int .i64 at_, .int .i64 n] w fun e w' => e = .returned (.bool false) ∧ Ext w w' := by
  have HMO := hid hmono
  have HLO := hid hlow
  have HHI := hid hhigh
  clear hmono hlow hhigh
  obtain ⟨A, ca, rfl, hca, hnil⟩ := h.2.2.2.1.shape
  have HQ := hid h
  have hqw := h.1
  clear h
  have HG := hid hg
  clear hg
  go_enter Try.func13, Try.ntmps13
  go_upto_region 1 with (fail)
  refine wp_gen (fun W => Hid (Ext w W) ∧ Hid (W.cell? ⟨w.heap.size, 0, none⟩ = some (.pointer (some ⟨q, 0, none⟩))) ∧ Hid (W.cell? ⟨w.heap.size + 1, 0, none⟩ = some (.int .i64 at_)) ∧ w.heap.size + 1 < W.heap.size) ⟨hid (by repeat (first | (with_reducible exact Ext.refl _) | (with_reducible refine Ext.undrew ?_) | (with_reducible refine Ext.grow ?_ _) | (with_reducible refine Ext.drew ?_) | (with_reducible refine Ext.drewN ?_ _) | (with_reducible refine Ext.alloc ?_ _) | (with_reducible assumption) | ((with_reducible refine Ext.setCell ?_ ?_ _); rotate_left; (first | exact Nat.le_refl _ | ((try dsimp only); (try simp only [World.size_alloc, grow_size, World.size_setCell]); omega))))), hid (by simp [go_sem]), hid (by simp [go_sem]), by simp⟩ ?_
  rintro W0 ⟨hx0, hF0, hA0, hBl⟩
  obtain ⟨BF, hBF⟩ : ∃ x, w.heap.size = x := ⟨_, rfl⟩
  obtain ⟨BA, hBA⟩ : ∃ x, w.heap.size + 1 = x := ⟨_, rfl⟩
  rw [hBF] at hF0 ⊢
  rw [hBF] at hBA hBl
  rw [← hBF] at hBA
  (try rw [hBF] at hBA)
  rw [hBA] at hBl ⊢
  have hA0 : Hid (W0.cell? ⟨BA, 0, none⟩ = some (.int .i64 at_)) := hid (by have := hA0.out; rwa [hBF, hBA] at this)
  have hqBF : q < BF := by omega
  have hfBA : BF < BA := by omega
  refine wp_region_step (.rd 0 (.rd 1 (.ac 2 (.ac 3 (.rd 4 (.rd 5 (.rd 6 (.rd 7 (.rd 8 (.rd 9 (.rd 10 (.rd 11 (.rd 12 (.rd 13 (.rd 14 (.rd 15 (.rd 16 (.rd 17 (.rd 18 (.rd 19 (.rd 20 (.rd 21 (.rd 22 (.rd 23 (.rd 24 (.rd 25 (.rd 26 (.rd 27 (.rd 28 (.rd 29 (.rd 30 (.rd 31 (.rd 32 (.rd 33 (.rd 34 .done))))))))))))))))))))))))))))))))))) (by kernel_rfl) (by kernel_rfl) (fun _ _ d _ _ h => by cases d <;> exact h) (by simp only [Ord.map, nthOp, List.append]; rfl) ?_
  intro d0
  have hx1 : Ext W0 (Go.Proofs.Ytkjakaoimbmcjaa.grow W0 d0) := Ext.grow (Ext.refl _) d0
  have hx2 := hid (hx0.out.trans hx1)
  have hF := (hx1.cells BF 0 (by omega)).trans hF0.out
  have hA := (hx1.cells BA 0 hBl).trans hA0.out
  have hBl1 := Nat.lt_of_lt_of_le hBl hx1.size
  generalize Go.Proofs.Ytkjakaoimbmcjaa.grow W0 d0 = W at hx2 hF hA hBl1 ⊢
  clear hx0 hx1 hF0 hA0 hBl
  have hBl2 : BF < W.heap.size := by omega
  have HQ2 := hid (HQ.out.ext hx2.out)
  have hq1 := HQ2.out.1
  obtain ⟨a0, a1, a2⟩ := HQ2.out.2.1
  have hqF : ¬ q = BF := by omega
  iterate 2 (refine step_read (by rfl) (fun K hK => ?_); go_big_quiet_op; refine hK _ ?_; clear hK K)
  iterate 2 (refine step_act (by rfl) (fun K hK => ?_); go_wp2_with (first | (go_at_call 22; refine (gran_ (some ⟨W.heap.size, 0, none⟩) 2 [at_, n] _ (slAtNew W [.int .i64 at_, .int .i64 n] _) (by simp)).mono ?_; rw [HG.out]; rintro e w1 ⟨rfl, hx1⟩)); refine ⟨_, (by repeat (first | (with_reducible exact Ext.refl _) | (with_reducible refine Ext.undrew ?_) | (with_reducible refine Ext.grow ?_ _) | (with_reducible refine Ext.drew ?_) | (with_reducible refine Ext.drewN ?_ _) | (with_reducible refine Ext.alloc ?_ _) | (with_reducible assumption) | ((with_reducible refine Ext.setCell ?_ ?_ _); rotate_left; (first | exact Nat.le_refl _ | ((try dsimp only); (try simp only [World.size_alloc, grow_size, World.size_setCell]); omega))))), Ext.refl _, ?_⟩)
  have hxW := (Ext.alloc (Ext.refl W) (.cells #[.int .i64 at_, .int .i64 n] 3)).trans hx1
  have HQ3 := hid (HQ2.out.ext hxW)
  have hF3 := (hxW.cells BF 0 hBl2).trans hF
  have hA3 := (hxW.cells BA 0 hBl1).trans hA
  have hBF3 := Nat.lt_of_lt_of_le hBl2 hxW.size
  have hBA3 := Nat.lt_of_lt_of_le hBl1 hxW.size
  have hxw3 := hid (hx2.out.trans hxW)
  clear hF hA hBl1 hBl2 hx1 hxW hx2 a0 a1 a2 hq1
  have hq1 := HQ3.out.1
  obtain ⟨a0, a1, a2⟩ := HQ3.out.2.1
  have k0 : ¬ n < 1 := by omega
  have k1 : ¬ at_ < fr := by omega
  have k2 : ¬ to < at_ := by omega
  have hw : wrap64 (to - at_) = to - at_ := wrapP (by omega) (by omega)
  have k3 : ¬ to - at_ < n := by omega
  apply step_quiet
  repeat (first | exact IsOrd.nil | apply IsOrd.cons)
  (repeat (go_big_quiet_step (fail)))
  refine wpQuiet_nil ?_
  clear k0 k1 k2 hw k3 a0 a1 a2 hq1
  have hwe : wrap64 (at_ + n) = at_ + n := wrapP (by omega) (by omega)
  have HF3 := hid hF3
  have HA3 := hid hA3
  have hF3' := hF3
  have hq1 := HQ3.out.1
  have hq2 := HQ3.out.2.1.2.2
  go_upto_region 5 with (go_at_call 27; refine (search_ q base fr to _ l _ HQ3.out BF BA at_ HF3.out HA3.out hBF3 hBA3 (by omega) HMO.out).mono ?_; rintro e w2 ⟨k', rfl, hkl', hlow', hhigh', hx2⟩; obtain rfl : k = k' := srch_uniq HLO.out HHI.out hkl hlow' hhigh' hkl')
  have HQ4 := hid (HQ3.out.ext hx2)
  have hxw4 := hid (hxw3.out.trans hx2)
  have hF4 := (hx2.cells BF 0 hBF3).trans hF3
  have hA4 := (hx2.cells BA 0 hBA3).trans hA3
  have hBF4 := Nat.lt_of_lt_of_le hBF3 hx2.size
  have hBA4 := Nat.lt_of_lt_of_le hBA3 hx2.size
  clear HQ3 hxw3 hF3 hA3 hF3' HF3 HA3 hBF3 hBA3 hx2 hq1 hq2 hlow' hhigh' hkl' HMO
  have hq1 := HQ4.out.1
  have hq2 := HQ4.out.2.1.2.2
  obtain ⟨b, o, rfl, hb, c0, _⟩ := (HQ4.out.2.2.2.1.rdP rfl).two hk
  have hlo := hov
  clear hov
  generalize (l[k]).lo = xl at c0 hlo
  have k5 : (k : Int) < (l.length : Int) := by omega
  have k6 : (0 : Int) ≤ (k : Int) := by omega
  go_wp2
  go_ret
  exact ⟨rfl, hxw4.out⟩
/-- What is free when a run was given back, that stands at k. -/
def giveL (l : List Pr) (k : Nat) (p : Pr) : List Pr := joinL (joinL (l.take k ++ p :: l.drop k) (k + 1)) k
theorem joinL_len (l : List Pr) (i : Nat) : (joinL l i).length ≤ l.length := by
  unfold joinL
  split
  · split
    · exact (by rw [List.length_eraseIdx, List.length_set]; split <;> omega)
    · exact Nat.le_refl _
  · exact Nat.le_refl _
theorem only_gen {S : Nat → Prop} {P : Program} {ops : Array Oper} {Q : Exit → Act → World → Prop} {r : Ord Oper} {W : World} {a : Act} {w : World} (I : World → Prop) (hI : I w) (h : ∀ w', I w' → wpOnly S P ops Q r W a w') : wpOnly S P ops Q r W a w := h w hI
theorem quiet_runD {P : Program} {o : Oper} {a : Act} {C : World → Prop} {K : Act → Prop} (d : Nat) (_ : o.dst = some d) (v : Value) (h : ∀ w, (execOp a.eval o).run P w = .ok (.value v) w) (k : K (a.put o.dst v)) : o.quiet P a C K := quiet_run v h k
set_option maxRecDepth 100000 in
set_option maxHeartbeats 4000000 in
theorem give_yes0 (q base : Nat) (fr to : Int) (v : Value) (l : List Pr) (w : World) (h : Fr w q base fr to v l) (at_ n : Int) (hg : [at_, n].all g16 = true) (hb0 : 0 ≤ fr) (hb1 : to ≤ 16777216) (h0 : 1 ≤ n) (h1 : fr ≤ at_) (h2 : at_ ≤ to) (h3 : n ≤ to - at_) (hl9 : l.length ≤ 10000000)
    (hmono : ∀ (a b : Nat) (hb : b < l.length) (hab : a ≤ b), at_ < (l[a]'(by omega)).hi → at_ < (l[b]).hi) (k : Nat) (hkl : k ≤ l.length) (hlow : ∀ (j : Nat) (hj : j < l.length), j < k → (l[j]).hi ≤ at_) (hhigh : ∀ hk : k < l.length, at_ < (l[k]).hi) (hk : Hid (k = l.length)) : Calls Try.prog 13 #[.pointer (some ⟨q, 0, none⟩), .int .i64 at_, .int .i64 n] w fun e w' => ∃ v', e = .returned (.bool true) ∧ Hid (Fr w' q base fr to v' (giveL l k ⟨at_, at_ + n⟩)) ∧ Hid (Only (tch q v) w w') ∧ (∀ g, v'.ownBlock = some g → v.ownBlock = some g ∨ w.heap.size ≤ g) := by
  have HMO := hid hmono
  have HLO := hid hlow
  have HHI := hid hhigh
  clear hmono hlow hhigh
  obtain ⟨A, ca, rfl, hca, hnil⟩ := h.2.2.2.1.shape
  have HQ := hid h
  have hqw := h.1
  have HB : Hid (∀ g, (Value.slice A l.length ca).ownBlock = some g → g < w.heap.size) := hid (fun g e => (h.2.2.2.1.lt g e).2)
  clear h
  have HG := hid hg
  clear hg
  go_enter Try.func13, Try.ntmps13
  go_upto_region 1 with (fail)
  refine wp_gen (fun W => Hid (Ext w W) ∧ Hid (W.cell? ⟨w.heap.size, 0, none⟩ = some (.pointer (some ⟨q, 0, none⟩))) ∧ Hid (W.cell? ⟨w.heap.size + 1, 0, none⟩ = some (.int .i64 at_)) ∧ w.heap.size + 1 < W.heap.size) ⟨hid (by repeat (first | (with_reducible exact Ext.refl _) | (with_reducible refine Ext.undrew ?_) | (with_reducible refine Ext.grow ?_ _) | (with_reducible refine Ext.drew ?_) | (with_reducible refine Ext.drewN ?_ _) | (with_reducible refine Ext.alloc ?_ _) | (with_reducible assumption) | ((with_reducible refine Ext.setCell ?_ ?_ _); rotate_left; (first | exact Nat.le_refl _ | ((try dsimp only); (try simp only [World.size_alloc, grow_size, World.size_setCell]); omega))))), hid (by simp [go_sem]), hid (by simp [go_sem]), by simp⟩ ?_
  rintro W0 ⟨hx0, hF0, hA0, hBl⟩
  obtain ⟨BF, hBF⟩ : ∃ x, w.heap.size = x := ⟨_, rfl⟩
  obtain ⟨BA, hBA⟩ : ∃ x, w.heap.size + 1 = x := ⟨_, rfl⟩
  rw [hBF] at hF0 HB ⊢
  rw [hBF] at hBA hBl
  rw [← hBF] at hBA
  (try rw [hBF] at hBA)
  rw [hBA] at hBl ⊢
  have hA0 : Hid (W0.cell? ⟨BA, 0, none⟩ = some (.int .i64 at_)) := hid (by have := hA0.out; rwa [hBF, hBA] at this)
  have hqBF : q < BF := by omega
  have hfBA : BF < BA := by omega
  refine wp_region_step (.rd 0 (.rd 1 (.ac 2 (.ac 3 (.rd 4 (.rd 5 (.rd 6 (.rd 7 (.rd 8 (.rd 9 (.rd 10 (.rd 11 (.rd 12 (.rd 13 (.rd 14 (.rd 15 (.rd 16 (.rd 17 (.rd 18 (.rd 19 (.rd 20 (.rd 21 (.rd 22 (.rd 23 (.rd 24 (.rd 25 (.rd 26 (.rd 27 (.rd 28 (.rd 29 (.rd 30 (.rd 31 (.rd 32 (.rd 33 (.rd 34 .done))))))))))))))))))))))))))))))))))) (by kernel_rfl) (by kernel_rfl) (fun _ _ d _ _ h => by cases d <;> exact h) (by simp only [Ord.map, nthOp, List.append]; rfl) ?_
  intro d0
  have hx1 : Ext W0 (Go.Proofs.Ytkjakaoimbmcjaa.grow W0 d0) := Ext.grow (Ext.refl _) d0
  have hx2 := hid (hx0.out.trans hx1)
  have hF := (hx1.cells BF 0 (by omega)).trans hF0.out
  have hA := (hx1.cells BA 0 hBl).trans hA0.out
  have hBl1 := Nat.lt_of_lt_of_le hBl hx1.size
  generalize Go.Proofs.Ytkjakaoimbmcjaa.grow W0 d0 = W at hx2 hF hA hBl1 ⊢
  clear hx0 hx1 hF0 hA0 hBl
  have hBl2 : BF < W.heap.size := by omega
  have HQ2 := hid (HQ.out.ext hx2.out)
  have hq1 := HQ2.out.1
  obtain ⟨a0, a1, a2⟩ := HQ2.out.2.1
  have hqF : ¬ q = BF := by omega
  iterate 2 (refine step_read (by rfl) (fun K hK => ?_); go_big_quiet_op; refine hK _ ?_; clear hK K)
  iterate 2 (refine step_act (by rfl) (fun K hK => ?_); go_wp2_with (first | (go_at_call 22; refine (gran_ (some ⟨W.heap.size, 0, none⟩) 2 [at_, n] _ (slAtNew W [.int .i64 at_, .int .i64 n] _) (by simp)).mono ?_; rw [HG.out]; rintro e w1 ⟨rfl, hx1⟩)); refine ⟨_, (by repeat (first | (with_reducible exact Ext.refl _) | (with_reducible refine Ext.undrew ?_) | (with_reducible refine Ext.grow ?_ _) | (with_reducible refine Ext.drew ?_) | (with_reducible refine Ext.drewN ?_ _) | (with_reducible refine Ext.alloc ?_ _) | (with_reducible assumption) | ((with_reducible refine Ext.setCell ?_ ?_ _); rotate_left; (first | exact Nat.le_refl _ | ((try dsimp only); (try simp only [World.size_alloc, grow_size, World.size_setCell]); omega))))), Ext.refl _, ?_⟩)
  have hxW := (Ext.alloc (Ext.refl W) (.cells #[.int .i64 at_, .int .i64 n] 3)).trans hx1
  have HQ3 := hid (HQ2.out.ext hxW)
  have hF3 := (hxW.cells BF 0 hBl2).trans hF
  have hA3 := (hxW.cells BA 0 hBl1).trans hA
  have hBF3 := Nat.lt_of_lt_of_le hBl2 hxW.size
  have hBA3 := Nat.lt_of_lt_of_le hBl1 hxW.size
  have hxw3 := hid (hx2.out.trans hxW)
  clear hF hA hBl1 hBl2 hx1 hxW hx2 a0 a1 a2 hq1
  have hq1 := HQ3.out.1
  obtain ⟨a0, a1, a2⟩ := HQ3.out.2.1
  have k0 : ¬ n < 1 := by omega
  have k1 : ¬ at_ < fr := by omega
  have k2 : ¬ to < at_ := by omega
  have hw : wrap64 (to - at_) = to - at_ := wrapP (by omega) (by omega)
  have k3 : ¬ to - at_ < n := by omega
  apply step_quiet
  repeat (first | exact IsOrd.nil | apply IsOrd.cons)
  (repeat (go_big_quiet_step (fail)))
  refine wpQuiet_nil ?_
  clear k0 k1 k2 hw k3 a0 a1 a2 hq1
  have hwe : wrap64 (at_ + n) = at_ + n := wrapP (by omega) (by omega)
  have HF3 := hid hF3
  have HA3 := hid hA3
  have hF3' := hF3
  have hq1 := HQ3.out.1
  have hq2 := HQ3.out.2.1.2.2
  go_upto_region 5 with (go_at_call 27; refine (search_ q base fr to _ l _ HQ3.out BF BA at_ HF3.out HA3.out hBF3 hBA3 (by omega) HMO.out).mono ?_; rintro e w2 ⟨k', rfl, hkl', hlow', hhigh', hx2⟩; obtain rfl : k = k' := srch_uniq HLO.out HHI.out hkl hlow' hhigh' hkl')
  have HQ4 := hid (HQ3.out.ext hx2)
  have hxw4 := hid (hxw3.out.trans hx2)
  have hF4 := (hx2.cells BF 0 hBF3).trans hF3
  have hA4 := (hx2.cells BA 0 hBA3).trans hA3
  have hBF4 := Nat.lt_of_lt_of_le hBF3 hx2.size
  have hBA4 := Nat.lt_of_lt_of_le hBA3 hx2.size
  clear HQ3 hxw3 hF3 hA3 hF3' HF3 HA3 hBF3 hBA3 hx2 hq1 hq2 hlow' hhigh' hkl' HMO
  have hq1 := HQ4.out.1
  have hq2 := HQ4.out.2.1.2.2
  have k5 : ¬ (k : Int) < (l.length : Int) := by have := hk.out; omega
  go_upto_region 7 with (fail)
  obtain ⟨v, hv⟩ : ∃ v, Value.slice A l.length ca = v := ⟨_, rfl⟩
  refine wp_region_only (S := tch q (Value.slice A l.length ca)) (.rd 0 (.rd 1 (.rd 2 (.rd 3 (.rd 5 (.rd 6 (.rd 7 (.rd 8 (.br 4 (.ac 9 (.ac 10 (.rd 11 (.rd 12 (.ac 13 .done))))) 9 (.ac 4 (.ac 10 (.rd 11 (.rd 12 (.ac 13 .done)))))))))))))) (by kernel_rfl) (by kernel_rfl) (fun _ _ d _ _ h => by cases d <;> exact h) (by simp only [Ord.map, nthOp, List.append]; rfl) ?_
  intro d1
  have hx5 : Ext w2 (Go.Proofs.Ytkjakaoimbmcjaa.grow w2 d1) := Ext.grow (Ext.refl _) d1
  have HQ5 := hid (HQ4.out.ext hx5)
  have hxw5 := hid (hxw4.out.trans hx5)
  have hF5 := (hx5.cells BF 0 hBF4).trans hF4
  have hA5 := (hx5.cells BA 0 hBA4).trans hA4
  have hBF5 := Nat.lt_of_lt_of_le hBF4 hx5.size
  have hBA5 := Nat.lt_of_lt_of_le hBA4 hx5.size
  generalize Go.Proofs.Ytkjakaoimbmcjaa.grow w2 d1 = W5 at HQ5 hxw5 hF5 hA5 hBF5 hBA5 ⊢
  clear HQ4 hxw4 hF4 hA4 hBF4 hBA4 hx5 hq1 hq2
  have hc5 := HQ5.out.2.1.2.2
  have hq5 := HQ5.out.1
  rw [hv] at hc5 HQ5 HB ⊢
  have hSF : ¬ tch q v BF := by
    rintro (e | e)
    · omega
    · exact absurd (HB.out _ e) (Nat.lt_irrefl _)
  have hSA : ¬ tch q v BA := by
    rintro (e | e)
    · omega
    · have := HB.out _ e; omega
  have HV := hid hv
  clear hv
  repeat' (first | (refine only_read (by rfl) (fun K hK => ?_); refine quiet_load1 24 _ rfl BF 0 rfl (.pointer (some ⟨q, 0, none⟩)) _ (fun w' hw' => (hw'.cells BF 0 hBF5 hSF).trans hF5) Try.underlying24 rfl ?_; refine hK _ ?_; clear hK K; simp only [Act.put, List.setIfInBounds_toArray, List.set_cons_zero, List.set_cons_succ]) | (refine only_read (by rfl) (fun K hK => ?_); refine quiet_load1 3 _ rfl BA 0 rfl (.int .i64 at_) _ (fun w' hw' => (hw'.cells BA 0 hBA5 hSA).trans hA5) Try.underlying3 rfl ?_; refine hK _ ?_; clear hK K; simp only [Act.put, List.setIfInBounds_toArray, List.set_cons_zero, List.set_cons_succ]) | (refine only_read (by rfl) (fun K hK => ?_); refine quiet_runD 75 rfl (.pointer (some ⟨q, 0, none⟩)) (fun w => by kernel_rfl) ?_; refine hK _ ?_; clear hK K; simp only [Act.put, List.setIfInBounds_toArray, List.set_cons_zero, List.set_cons_succ]) | (refine only_read (by rfl) (fun K hK => ?_); refine quiet_runD 76 rfl (.pointer (some ⟨q, 2, none⟩)) (fun w => by kernel_rfl) ?_; refine hK _ ?_; clear hK K; simp only [Act.put, List.setIfInBounds_toArray, List.set_cons_zero, List.set_cons_succ]) | (refine only_read (by rfl) (fun K hK => ?_); refine quiet_runD 84 rfl (.pointer (some ⟨q, 0, none⟩)) (fun w => by kernel_rfl) ?_; refine hK _ ?_; clear hK K; simp only [Act.put, List.setIfInBounds_toArray, List.set_cons_zero, List.set_cons_succ]) | (refine only_read (by rfl) (fun K hK => ?_); refine quiet_runD 85 rfl (.pointer (some ⟨q, 2, none⟩)) (fun w => by kernel_rfl) ?_; refine hK _ ?_; clear hK K; simp only [Act.put, List.setIfInBounds_toArray, List.set_cons_zero, List.set_cons_succ]) | (refine only_read (by rfl) (fun K hK => ?_); refine quiet_runD 81 rfl (.agg #[.int .i64 at_, .int .i64 (at_ + n)]) (fun w => by kernel_rfl) ?_; refine hK _ ?_; clear hK K; simp only [Act.put, List.setIfInBounds_toArray, List.set_cons_zero, List.set_cons_succ]) | (refine only_read (by rfl) (fun K hK => ?_); go_big_quiet_op; refine hK _ ?_; clear hK K))
  refine only_br ?_ ?_
  · refine only_act (by rfl) (fun K hK => ?_)
    go_wp2_with fail
    refine ⟨_, Only.refl _ _, Only.refl _ _, ?_⟩
    refine only_act (by rfl) (fun K hK => ?_)
    refine wp_build1 35 38 (.tmp 81) rfl #[.int .i64 at_, .int .i64 (at_ + n)] 2 rfl rfl (by omega) (by omega) Try.underlying35 (by kernel_rfl) (by kernel_rfl) ?_
    refine hK _ _ ⟨_, Only.refl _ _, Only.ofExt (Ext.alloc (Ext.refl _) _), ?_⟩
    refine only_gen (fun W => Hid (Ext W5 W) ∧ Hid (W.heap[W5.heap.size]? = some (.cells #[.int .i64 at_, .int .i64 (at_ + n)] 38 (0, 0)))) ⟨hid (Ext.alloc (Ext.refl _) _), hid (heap_alloc_new W5 _)⟩ ?_
    clear hK K
    rintro w6 ⟨hE6, hV6⟩
    have hq6 := hid (HQ5.out.ext hE6.out)
    have hc6 := hq6.out.2.1.2.2
    have hl6 := hq6.out.1
    have hS6 : Hid (Only (tch q v) W5 w6) := hid (Only.ofExt hE6.out)
    refine only_act (by rfl) (fun K hK => ?_)
    go_wp2_with (go_at_call 29; refine (eins_ w6 base ⟨at_, at_ + n⟩ W5.heap.size hV6.out _ l.length k l hq6.out.2.2.2.1 hkl (by omega) (by have := hq6.out.2.2.2.2.1; omega) (fun g hg => by have := (HQ5.out.2.2.2.1.lt g hg).2; omega)).mono ?_; rintro e w7 ⟨v7, rfl, HR7, HO7, hat7⟩; obtain ⟨A7, c7, rfl, _, _⟩ := HR7.out.shape)
    have hS7 : Hid (Only (tch q v) W5 w7) := hid (Only.trans' hS6.out (HO7.out.mono fun i e => .inr e))
    refine ⟨_, Only.refl _ _, hS7.out, ?_⟩
    have hnq : ¬ v.ownBlock = some q := fun e => hq6.out.2.2.2.2.2 q e rfl
    have hq7 : q < w7.heap.size := Nat.lt_of_lt_of_le hl6 HO7.out.size
    have d0 := (HO7.out.cells q 0 hl6 hnq).trans hq6.out.2.1.1
    have d1 := (HO7.out.cells q 1 hl6 hnq).trans hq6.out.2.1.2.1
    have d2 := (HO7.out.cells q 2 hl6 hnq).trans hc6
    have f0 := (HO7.out.frozens q 0 hl6 hnq).trans hq6.out.2.2.1.1
    have f1 := (HO7.out.frozens q 1 hl6 hnq).trans hq6.out.2.2.1.2.1
    have f2 := (HO7.out.frozens q 2 hl6 hnq).trans hq6.out.2.2.1.2.2
    have hne7 : ∀ g, (Value.slice A7 (l.length + 1) c7).ownBlock = some g → ¬ g = q := fun g hg e => by
      rcases hat7 g hg with e2 | e2
      · exact hq6.out.2.2.2.2.2 g e2 e
      · omega
    have hat8 : ∀ g, (Value.slice A7 (l.length + 1) c7).ownBlock = some g → v.ownBlock = some g ∨ W5.heap.size ≤ g := fun g hg => (hat7 g hg).imp_right fun h => Nat.le_trans hE6.out.size h
    clear hat7 hE6 hV6 hq6 hc6 hS6 HO7
    repeat' (first | (refine only_read (by rfl) (fun K hK => ?_); refine quiet_load1 24 _ rfl BF 0 rfl (.pointer (some ⟨q, 0, none⟩)) _ (fun w' hw' => (hw'.cells BF 0 hBF5 hSF).trans hF5) Try.underlying24 rfl ?_; refine hK _ ?_; clear hK K; simp only [Act.put, List.setIfInBounds_toArray, List.set_cons_zero, List.set_cons_succ]) | (refine only_read (by rfl) (fun K hK => ?_); refine quiet_load1 3 _ rfl BA 0 rfl (.int .i64 at_) _ (fun w' hw' => (hw'.cells BA 0 hBA5 hSA).trans hA5) Try.underlying3 rfl ?_; refine hK _ ?_; clear hK K; simp only [Act.put, List.setIfInBounds_toArray, List.set_cons_zero, List.set_cons_succ]) | (refine only_read (by rfl) (fun K hK => ?_); refine quiet_runD 75 rfl (.pointer (some ⟨q, 0, none⟩)) (fun w => by kernel_rfl) ?_; refine hK _ ?_; clear hK K; simp only [Act.put, List.setIfInBounds_toArray, List.set_cons_zero, List.set_cons_succ]) | (refine only_read (by rfl) (fun K hK => ?_); refine quiet_runD 76 rfl (.pointer (some ⟨q, 2, none⟩)) (fun w => by kernel_rfl) ?_; refine hK _ ?_; clear hK K; simp only [Act.put, List.setIfInBounds_toArray, List.set_cons_zero, List.set_cons_succ]) | (refine only_read (by rfl) (fun K hK => ?_); refine quiet_runD 84 rfl (.pointer (some ⟨q, 0, none⟩)) (fun w => by kernel_rfl) ?_; refine hK _ ?_; clear hK K; simp only [Act.put, List.setIfInBounds_toArray, List.set_cons_zero, List.set_cons_succ]) | (refine only_read (by rfl) (fun K hK => ?_); refine quiet_runD 85 rfl (.pointer (some ⟨q, 2, none⟩)) (fun w => by kernel_rfl) ?_; refine hK _ ?_; clear hK K; simp only [Act.put, List.setIfInBounds_toArray, List.set_cons_zero, List.set_cons_succ]) | (refine only_read (by rfl) (fun K hK => ?_); refine quiet_runD 81 rfl (.agg #[.int .i64 at_, .int .i64 (at_ + n)]) (fun w => by kernel_rfl) ?_; refine hK _ ?_; clear hK K; simp only [Act.put, List.setIfInBounds_toArray, List.set_cons_zero, List.set_cons_succ]) | (refine only_read (by rfl) (fun K hK => ?_); go_big_quiet_op; refine hK _ ?_; clear hK K))
    refine only_act (by rfl) (fun K hK => ?_)
    go_wp2_with fail
    refine ⟨_, Only.refl _ _, Only.setCell (S := tch q v) hS7.out (Or.inl (show tch q v q from Or.inl rfl)) _, ?_⟩
    refine only_nil ?_
    have hX8 : Only (tch q v) W5 (w7.setCell ⟨q, 2, none⟩ (Value.slice A7 (l.length + 1) c7)) := Only.setCell (S := tch q v) hS7.out (Or.inl (show tch q v q from Or.inl rfl)) _
    have hl8 : (l.take k ++ Pr.mk at_ (at_ + n) :: l.drop k).length = l.length + 1 := ins_len l _ k _ rfl hkl
    have hF8 : Fr (w7.setCell ⟨q, 2, none⟩ (Value.slice A7 (l.length + 1) c7)) q base fr to (Value.slice A7 (l.length + 1) c7) (l.take k ++ Pr.mk at_ (at_ + n) :: l.drop k) := by
      refine ⟨by simpa using hq7, ⟨by simp [go_sem, d0], by simp [go_sem, d1], by simp [go_sem, d2]⟩, ⟨by simp [go_sem, f0], by simp [go_sem, f1], by simp [go_sem, f2]⟩, ?_, HQ5.out.2.2.2.2.1, hne7⟩
      rw [hl8]
      exact HR7.out.only (Only.setCell (S := fun i => i = q) (Only.refl _ _) (.inl rfl) (Value.slice A7 (l.length + 1) c7)) hne7
    have HF8 := hid hF8
    have HX8 := hid hX8
    have hBF8 : BF < (w7.setCell ⟨q, 2, none⟩ (Value.slice A7 (l.length + 1) c7)).heap.size := Nat.lt_of_lt_of_le hBF5 hX8.size
    have hc8 : (w7.setCell ⟨q, 2, none⟩ (Value.slice A7 (l.length + 1) c7)).cell? ⟨BF, 0, none⟩ = some (.pointer (some ⟨q, 0, none⟩)) := (hX8.cells BF 0 hBF5 hSF).trans hF5
    generalize w7.setCell ⟨q, 2, none⟩ (Value.slice A7 (l.length + 1) c7) = W8 at HF8 HX8 hBF8 hc8 ⊢
    clear hF8 hX8 d0 d1 d2 f0 f1 f2 hS7 HR7
    obtain ⟨j, hj⟩ : ∃ j, j = k + 1 := ⟨_, rfl⟩
    have hji : (k : Int) + 1 = (j : Int) := by omega
    have HJ := hid hj
    clear hj
    have hB7 : ∀ g, (Value.slice A7 (l.length + 1) c7).ownBlock = some g → ¬ g = BF := fun g hg e => by
      rcases hat8 g hg with e2 | e2
      · have := HB.out g e2; omega
      · omega
    have hqB : ¬ q = BF := by omega
    have hl89 : (l.take k ++ Pr.mk at_ (at_ + n) :: l.drop k).length ≤ 100000000 := by omega
    go_upto_region 9 with (go_at_call 30; refine (join_ q base fr to (Value.slice A7 (l.length + 1) c7) _ _ HF8.out j hl89).mono ?_; rintro e w9 ⟨rfl, v9, HF9, HO9, hv9⟩)
    have hBF9 : BF < w9.heap.size := Nat.lt_of_lt_of_le hBF8 HO9.out.size
    have hS9 : ¬ tch q (Value.slice A7 (l.length + 1) c7) BF := by
      rintro (e | e)
      · exact hqB e.symm
      · exact hB7 _ e rfl
    have hc9 : w9.cell? ⟨BF, 0, none⟩ = some (.pointer (some ⟨q, 0, none⟩)) := (HO9.out.cells BF 0 hBF8 hS9).trans hc8
    have hl99 : (joinL (l.take k ++ Pr.mk at_ (at_ + n) :: l.drop k) j).length ≤ 100000000 := Nat.le_trans (joinL_len _ _) hl89
    clear hc8
    go_wp2_with (go_at_call 30; refine (join_ q base fr to v9 _ _ HF9.out k hl99).mono ?_; rintro e w10 ⟨rfl, v10, HF10, HO10, hv10⟩)
    go_ret
    rw [HV.out]
    have hfin : ∀ w', Only (tch q v) W5 w' → Only (tch q v) w w' := fun w' x => (Only.ofExt (S := tch q v) hxw5.out).trans x fun i e => .inl e
    refine ⟨v10, rfl, hid (by unfold giveL; rw [← HJ.out]; exact HF10.out), hid ?_, fun g hg => ?_⟩
    · refine hfin _ ((HX8.out.trans (T := tch q (Value.slice A7 (l.length + 1) c7)) HO9.out ?_).trans (T := tch q v9) HO10.out ?_)
      · rintro i (e | e)
        · exact .inl (.inl e)
        · exact (hat8 i e).imp_left .inr
      · rintro i (e | e)
        · exact .inl (.inl e)
        · exact (hat8 i (hv9 i e)).imp_left .inr
    · exact (hat8 g (hv9 g (hv10 g hg))).imp_right fun h => Nat.le_trans hxw5.out.size h
  · refine only_act (by rfl) (fun K hK => ?_)
    refine wp_build1 35 38 (.tmp 81) rfl #[.int .i64 at_, .int .i64 (at_ + n)] 2 rfl rfl (by omega) (by omega) Try.underlying35 (by kernel_rfl) (by kernel_rfl) ?_
    refine hK _ _ ⟨_, Only.refl _ _, Only.ofExt (Ext.alloc (Ext.refl _) _), ?_⟩
    refine only_gen (fun W => Hid (Ext W5 W) ∧ Hid (W.heap[W5.heap.size]? = some (.cells #[.int .i64 at_, .int .i64 (at_ + n)] 38 (0, 0)))) ⟨hid (Ext.alloc (Ext.refl _) _), hid (heap_alloc_new W5 _)⟩ ?_
    clear hK K
    rintro w6 ⟨hE6, hV6⟩
    have hq6 := hid (HQ5.out.ext hE6.out)
    have hc6 := hq6.out.2.1.2.2
    have hl6 := hq6.out.1
    have hS6 : Hid (Only (tch q v) W5 w6) := hid (Only.ofExt hE6.out)
    refine only_act (by rfl) (fun K hK => ?_)
    go_wp2_with fail
    refine ⟨_, Only.refl _ _, hS6.out, ?_⟩
    refine only_act (by rfl) (fun K hK => ?_)
    go_wp2_with (go_at_call 29; refine (eins_ w6 base ⟨at_, at_ + n⟩ W5.heap.size hV6.out _ l.length k l hq6.out.2.2.2.1 hkl (by omega) (by have := hq6.out.2.2.2.2.1; omega) (fun g hg => by have := (HQ5.out.2.2.2.1.lt g hg).2; omega)).mono ?_; rintro e w7 ⟨v7, rfl, HR7, HO7, hat7⟩; obtain ⟨A7, c7, rfl, _, _⟩ := HR7.out.shape)
    have hS7 : Hid (Only (tch q v) W5 w7) := hid (Only.trans' hS6.out (HO7.out.mono fun i e => .inr e))
    refine ⟨_, Only.refl _ _, hS7.out, ?_⟩
    have hnq : ¬ v.ownBlock = some q := fun e => hq6.out.2.2.2.2.2 q e rfl
    have hq7 : q < w7.heap.size := Nat.lt_of_lt_of_le hl6 HO7.out.size
    have d0 := (HO7.out.cells q 0 hl6 hnq).trans hq6.out.2.1.1
    have d1 := (HO7.out.cells q 1 hl6 hnq).trans hq6.out.2.1.2.1
    have d2 := (HO7.out.cells q 2 hl6 hnq).trans hc6
    have f0 := (HO7.out.frozens q 0 hl6 hnq).trans hq6.out.2.2.1.1
    have f1 := (HO7.out.frozens q 1 hl6 hnq).trans hq6.out.2.2.1.2.1
    have f2 := (HO7.out.frozens q 2 hl6 hnq).trans hq6.out.2.2.1.2.2
    have hne7 : ∀ g, (Value.slice A7 (l.length + 1) c7).ownBlock = some g → ¬ g = q := fun g hg e => by
      rcases hat7 g hg with e2 | e2
      · exact hq6.out.2.2.2.2.2 g e2 e
      · omega
    have hat8 : ∀ g, (Value.slice A7 (l.length + 1) c7).ownBlock = some g → v.ownBlock = some g ∨ W5.heap.size ≤ g := fun g hg => (hat7 g hg).imp_right fun h => Nat.le_trans hE6.out.size h
    clear hat7 hE6 hV6 hq6 hc6 hS6 HO7
    repeat' (first | (refine only_read (by rfl) (fun K hK => ?_); refine quiet_load1 24 _ rfl BF 0 rfl (.pointer (some ⟨q, 0, none⟩)) _ (fun w' hw' => (hw'.cells BF 0 hBF5 hSF).trans hF5) Try.underlying24 rfl ?_; refine hK _ ?_; clear hK K; simp only [Act.put, List.setIfInBounds_toArray, List.set_cons_zero, List.set_cons_succ]) | (refine only_read (by rfl) (fun K hK => ?_); refine quiet_load1 3 _ rfl BA 0 rfl (.int .i64 at_) _ (fun w' hw' => (hw'.cells BA 0 hBA5 hSA).trans hA5) Try.underlying3 rfl ?_; refine hK _ ?_; clear hK K; simp only [Act.put, List.setIfInBounds_toArray, List.set_cons_zero, List.set_cons_succ]) | (refine only_read (by rfl) (fun K hK => ?_); refine quiet_runD 75 rfl (.pointer (some ⟨q, 0, none⟩)) (fun w => by kernel_rfl) ?_; refine hK _ ?_; clear hK K; simp only [Act.put, List.setIfInBounds_toArray, List.set_cons_zero, List.set_cons_succ]) | (refine only_read (by rfl) (fun K hK => ?_); refine quiet_runD 76 rfl (.pointer (some ⟨q, 2, none⟩)) (fun w => by kernel_rfl) ?_; refine hK _ ?_; clear hK K; simp only [Act.put, List.setIfInBounds_toArray, List.set_cons_zero, List.set_cons_succ]) | (refine only_read (by rfl) (fun K hK => ?_); refine quiet_runD 84 rfl (.pointer (some ⟨q, 0, none⟩)) (fun w => by kernel_rfl) ?_; refine hK _ ?_; clear hK K; simp only [Act.put, List.setIfInBounds_toArray, List.set_cons_zero, List.set_cons_succ]) | (refine only_read (by rfl) (fun K hK => ?_); refine quiet_runD 85 rfl (.pointer (some ⟨q, 2, none⟩)) (fun w => by kernel_rfl) ?_; refine hK _ ?_; clear hK K; simp only [Act.put, List.setIfInBounds_toArray, List.set_cons_zero, List.set_cons_succ]) | (refine only_read (by rfl) (fun K hK => ?_); refine quiet_runD 81 rfl (.agg #[.int .i64 at_, .int .i64 (at_ + n)]) (fun w => by kernel_rfl) ?_; refine hK _ ?_; clear hK K; simp only [Act.put, List.setIfInBounds_toArray, List.set_cons_zero, List.set_cons_succ]) | (refine only_read (by rfl) (fun K hK => ?_); go_big_quiet_op; refine hK _ ?_; clear hK K))
    refine only_act (by rfl) (fun K hK => ?_)
    go_wp2_with fail
    refine ⟨_, Only.refl _ _, Only.setCell (S := tch q v) hS7.out (Or.inl (show tch q v q from Or.inl rfl)) _, ?_⟩
    refine only_nil ?_
    have hX8 : Only (tch q v) W5 (w7.setCell ⟨q, 2, none⟩ (Value.slice A7 (l.length + 1) c7)) := Only.setCell (S := tch q v) hS7.out (Or.inl (show tch q v q from Or.inl rfl)) _
    have hl8 : (l.take k ++ Pr.mk at_ (at_ + n) :: l.drop k).length = l.length + 1 := ins_len l _ k _ rfl hkl
    have hF8 : Fr (w7.setCell ⟨q, 2, none⟩ (Value.slice A7 (l.length + 1) c7)) q base fr to (Value.slice A7 (l.length + 1) c7) (l.take k ++ Pr.mk at_ (at_ + n) :: l.drop k) := by
      refine ⟨by simpa using hq7, ⟨by simp [go_sem, d0], by simp [go_sem, d1], by simp [go_sem, d2]⟩, ⟨by simp [go_sem, f0], by simp [go_sem, f1], by simp [go_sem, f2]⟩, ?_, HQ5.out.2.2.2.2.1, hne7⟩
      rw [hl8]
      exact HR7.out.only (Only.setCell (S := fun i => i = q) (Only.refl _ _) (.inl rfl) (Value.slice A7 (l.length + 1) c7)) hne7
    have HF8 := hid hF8
    have HX8 := hid hX8
    have hBF8 : BF < (w7.setCell ⟨q, 2, none⟩ (Value.slice A7 (l.length + 1) c7)).heap.size := Nat.lt_of_lt_of_le hBF5 hX8.size
    have hc8 : (w7.setCell ⟨q, 2, none⟩ (Value.slice A7 (l.length + 1) c7)).cell? ⟨BF, 0, none⟩ = some (.pointer (some ⟨q, 0, none⟩)) := (hX8.cells BF 0 hBF5 hSF).trans hF5
    generalize w7.setCell ⟨q, 2, none⟩ (Value.slice A7 (l.length + 1) c7) = W8 at HF8 HX8 hBF8 hc8 ⊢
    clear hF8 hX8 d0 d1 d2 f0 f1 f2 hS7 HR7
    obtain ⟨j, hj⟩ : ∃ j, j = k + 1 := ⟨_, rfl⟩
    have hji : (k : Int) + 1 = (j : Int) := by omega
    have HJ := hid hj
    clear hj
    have hB7 : ∀ g, (Value.slice A7 (l.length + 1) c7).ownBlock = some g → ¬ g = BF := fun g hg e => by
      rcases hat8 g hg with e2 | e2
      · have := HB.out g e2; omega
      · omega
    have hqB : ¬ q = BF := by omega
    have hl89 : (l.take k ++ Pr.mk at_ (at_ + n) :: l.drop k).length ≤ 100000000 := by omega
    go_upto_region 9 with (go_at_call 30; refine (join_ q base fr to (Value.slice A7 (l.length + 1) c7) _ _ HF8.out j hl89).mono ?_; rintro e w9 ⟨rfl, v9, HF9, HO9, hv9⟩)
    have hBF9 : BF < w9.heap.size := Nat.lt_of_lt_of_le hBF8 HO9.out.size
    have hS9 : ¬ tch q (Value.slice A7 (l.length + 1) c7) BF := by
      rintro (e | e)
      · exact hqB e.symm
      · exact hB7 _ e rfl
    have hc9 : w9.cell? ⟨BF, 0, none⟩ = some (.pointer (some ⟨q, 0, none⟩)) := (HO9.out.cells BF 0 hBF8 hS9).trans hc8
    have hl99 : (joinL (l.take k ++ Pr.mk at_ (at_ + n) :: l.drop k) j).length ≤ 100000000 := Nat.le_trans (joinL_len _ _) hl89
    clear hc8
    go_wp2_with (go_at_call 30; refine (join_ q base fr to v9 _ _ HF9.out k hl99).mono ?_; rintro e w10 ⟨rfl, v10, HF10, HO10, hv10⟩)
    go_ret
    rw [HV.out]
    have hfin : ∀ w', Only (tch q v) W5 w' → Only (tch q v) w w' := fun w' x => (Only.ofExt (S := tch q v) hxw5.out).trans x fun i e => .inl e
    refine ⟨v10, rfl, hid (by unfold giveL; rw [← HJ.out]; exact HF10.out), hid ?_, fun g hg => ?_⟩
    · refine hfin _ ((HX8.out.trans (T := tch q (Value.slice A7 (l.length + 1) c7)) HO9.out ?_).trans (T := tch q v9) HO10.out ?_)
      · rintro i (e | e)
        · exact .inl (.inl e)
        · exact (hat8 i e).imp_left .inr
      · rintro i (e | e)
        · exact .inl (.inl e)
        · exact (hat8 i (hv9 i e)).imp_left .inr
    · exact (hat8 g (hv9 g (hv10 g hg))).imp_right fun h => Nat.le_trans hxw5.out.size h

end Go.Proofs.Ytkjakaoimbmcjaa
