/- Layer 17: to, own. -/
import Derived.Test.YtgldlkoohfclpaaImI
namespace Go.Proofs.Ytgldlkoohfclpaa
set_option linter.unusedSimpArgs false
set_option linter.unusedVariables false
open Go.RowKit

def Cap.cells (c : Cap) : List Value := [.bool c.tag, .int .i64 c.base, .int .i64 c.top, .int .i64 c.at_, .int .i64 c.perms, .int .i64 c.type]
set_option maxRecDepth 100000 in
set_option maxHeartbeats 4000000 in
theorem to_ (a b p : Int) (w : World) : Calls Try.prog 51 #[.agg #[.int .i64 a, .int .i64 b], .int .i64 p] w fun e w' => e = .returned (.agg #[.bool true, .int .i64 a, .int .i64 b, .int .i64 a, .int .i64 p, .int .i64 0]) ∧ Ext w w' := by
  go_enter Try.func51, Try.ntmps51
  go_wp2
  refine bodyPost_ret (v := .agg #[.bool true, .int .i64 a, .int .i64 b, .int .i64 a, .int .i64 p, .int .i64 0]) (by simp [results, Try.results51, go_sem]) rfl ⟨rfl, (by repeat (first | (with_reducible exact Ext.refl _) | (with_reducible refine Ext.undrew ?_) | (with_reducible refine Ext.grow ?_ _) | (with_reducible refine Ext.drew ?_) | (with_reducible refine Ext.drewN ?_ _) | (with_reducible refine Ext.alloc ?_ _) | (with_reducible assumption) | ((with_reducible refine Ext.setCell ?_ ?_ _); rotate_left; (first | exact Nat.le_refl _ | ((try dsimp only); (try simp only [World.size_alloc, grow_size, World.size_setCell]); omega)))))⟩
set_option maxRecDepth 100000 in
set_option maxHeartbeats 4000000 in
theorem own_ (A0 A1 A2 A3 : Option Addr) (n0 n1 n2 n3 c0 c1 c2 c3 : Nat) (pg : Int) (lc ld : List Sp) (k : Nat) (a b : Sp) (w : World) (hA : RdF SpF w A0 lc) (hB : RdF SpF w A1 ld) (h0 : lc.length = n0) (h1 : ld.length = n1) (hka : k < lc.length) (hkb : k < ld.length) (ha : lc[k] = a) (hb : ld[k] = b) : Calls Try.prog 49 #[.agg #[.slice A0 n0 c0, .slice A1 n1 c1, .slice A2 n2 c2, .slice A3 n3 c3, .int .i64 pg], .int .i64 (k : Int)] w fun e w' => e = .returned (.tuple #[.agg #[.bool true, .int .i64 a.lo, .int .i64 a.hi, .int .i64 a.lo, .int .i64 5, .int .i64 0], .agg #[.bool true, .int .i64 b.lo, .int .i64 b.hi, .int .i64 b.lo, .int .i64 27, .int .i64 0]]) ∧ Ext w w' := by
  have HA := hid hA
  have HB := hid hB
  have HKA := hid ha
  have HKB := hid hb
  have hk0 : (k : Int) < (n0 : Int) := by omega
  have hk1 : (k : Int) < (n1 : Int) := by omega
  clear hA hB ha hb h0 h1
  go_enter Try.func49, Try.ntmps49
  go_upto_region 1 with (fail)
  refine wp_gen (fun V => Hid (Ext w V) ∧ Hid (Row V w.heap.size 0 [.slice A0 n0 c0, .slice A1 n1 c1, .slice A2 n2 c2, .slice A3 n3 c3, .int .i64 pg]) ∧ Hid (Row V (w.heap.size + 1) 0 [.bool false, .int .i64 0, .int .i64 0, .int .i64 0, .int .i64 0, .int .i64 0]) ∧ Hid (Row V (w.heap.size + 1 + 1) 0 [.bool false, .int .i64 0, .int .i64 0, .int .i64 0, .int .i64 0, .int .i64 0])) ⟨hid (by repeat (first | (with_reducible exact Ext.refl _) | (with_reducible refine Ext.undrew ?_) | (with_reducible refine Ext.grow ?_ _) | (with_reducible refine Ext.drew ?_) | (with_reducible refine Ext.drewN ?_ _) | (with_reducible refine Ext.alloc ?_ _) | (with_reducible assumption) | ((with_reducible refine Ext.setCell ?_ ?_ _); rotate_left; (first | exact Nat.le_refl _ | ((try dsimp only); (try simp only [World.size_alloc, grow_size, World.size_setCell]); omega))))), hid ?_, hid ?_, hid ?_⟩ ?_
  · exact (Row.new w _ _).ext (Ext.trans ((Ext.refl _).alloc _) ((Ext.refl _).alloc _))
  · have h9 := Row.new (w.alloc (.cells #[.slice A0 n0 c0, .slice A1 n1 c1, .slice A2 n2 c2, .slice A3 n3 c3, .int .i64 pg] 45)) #[.bool false, .int .i64 0, .int .i64 0, .int .i64 0, .int .i64 0, .int .i64 0] 39
    rw [World.size_alloc] at h9
    exact h9.ext ((Ext.refl _).alloc _)
  · have h9 := Row.new ((w.alloc (.cells #[.slice A0 n0 c0, .slice A1 n1 c1, .slice A2 n2 c2, .slice A3 n3 c3, .int .i64 pg] 45)).alloc (.cells #[.bool false, .int .i64 0, .int .i64 0, .int .i64 0, .int .i64 0, .int .i64 0] 39)) #[.bool false, .int .i64 0, .int .i64 0, .int .i64 0, .int .i64 0, .int .i64 0] 39
    rw [World.size_alloc, World.size_alloc] at h9
    exact h9
  rintro V ⟨HV, HP, HG1, HG2⟩
  obtain ⟨p, hp0⟩ : ∃ y, w.heap.size = y := ⟨_, rfl⟩
  rw [hp0] at HP HG1 HG2 ⊢
  obtain ⟨g1, h1⟩ : ∃ y, p + 1 = y := ⟨_, rfl⟩
  rw [h1] at HG1 HG2 ⊢
  obtain ⟨g2, h2⟩ : ∃ y, g1 + 1 = y := ⟨_, rfl⟩
  rw [h2] at HG2 ⊢
  have hpg1 : p < g1 := by omega
  have hg12 : ¬ g1 = g2 := by omega
  have hg21 : ¬ g2 = g1 := by omega
  have hpg2 : p < g2 := by omega
  have hwg1 : w.heap.size ≤ g1 := by omega
  have hwg2 : w.heap.size ≤ g2 := by omega
  obtain ⟨ab, ao, rfl, hal0, hra0⟩ := HA.out.elem sp_len hka a HKA.out
  obtain ⟨bb, bo, rfl, hbl0, hrb0⟩ := HB.out.elem sp_len hkb b HKB.out
  have HAB := hid (show ab < g1 ∧ ab < g2 ∧ bb < g1 ∧ bb < g2 by omega)
  clear h1 h2 hp0
  refine wp_region_only (S := (fun i => i = g1 ∨ i = g2)) (.rd 0 (.rd 1 (.rd 2 (.rd 3 (.rd 4 (.rd 6 (.rd 7 (.rd 8 (.rd 9 (.rd 10 (.ac 5 (.ac 11 (.ac 12 (.ac 13 .done)))))))))))))) (by kernel_rfl) (by kernel_rfl) (fun _ _ d _ _ h => by cases d <;> exact h) (by simp only [Ord.map, nthOp, List.append]; rfl) ?_
  intro d1
  have HVg := hid (HV.out.trans (Ext.grow (Ext.refl V) d1))
  replace HP := hid (HP.out.ext (Ext.grow (Ext.refl V) d1))
  replace HG1 := hid (HG1.out.ext (Ext.grow (Ext.refl V) d1))
  replace HG2 := hid (HG2.out.ext (Ext.grow (Ext.refl V) d1))
  generalize Go.Proofs.Ytgldlkoohfclpaa.grow V d1 = W5 at HVg HP HG1 HG2 ⊢
  have hlg := HP.out.lt
  have hb0 := HP.out.range 0 _ rfl
  have hb1 := HP.out.range 1 _ rfl
  simp only [Nat.zero_add] at hb1
  have hal := Nat.lt_of_lt_of_le hal0 HVg.out.size
  have hbl := Nat.lt_of_lt_of_le hbl0 HVg.out.size
  have hra : W5.rangeAt ab (ao + k * 2) (SpF a) := fun j u hj => (HVg.out.cells _ _ hal0).trans (hra0 j u hj)
  have hrb : W5.rangeAt bb (bo + k * 2) (SpF b) := fun j u hj => (HVg.out.cells _ _ hbl0).trans (hrb0 j u hj)
  have HS0 := hid (Only.refl (fun i => i = g1 ∨ i = g2) W5)
  have HE0 := hid (Ext.refl W5)
  have hki : (0 : Int) ≤ (k : Int) := by omega
  refine only_read (by rfl) (fun K hK => ?_)
  refine quiet_runD 6 rfl (.pointer (some ⟨p, 0, none⟩)) (fun w => by kernel_rfl) ?_
  refine hK _ ?_
  clear hK K
  simp only [Act.put, List.setIfInBounds_toArray, List.set_cons_zero, List.set_cons_succ]
  refine only_read (by rfl) (fun K hK => ?_)
  refine quiet_load1 42 (.tmp 6) rfl (p) (0) rfl (.slice (some ⟨ab, ao, none⟩) n0 c0) _ (fun w' hw' => (hw'.cells p 0 hlg (fun e => e.elim (fun e => by omega) (fun e => by omega))).trans hb0) Try.underlying42 rfl ?_
  refine hK _ ?_
  clear hK K
  simp only [Act.put, List.setIfInBounds_toArray, List.set_cons_zero, List.set_cons_succ]
  refine only_read (by rfl) (fun K hK => ?_)
  go_big_quiet_op
  refine hK _ ?_
  clear hK K
  refine only_read (by rfl) (fun K hK => ?_)
  refine quiet_runD 9 rfl (.pointer (some ⟨ab, ao + k * 2, none⟩)) (fun w => by go_simp) ?_
  refine hK _ ?_
  clear hK K
  simp only [Act.put, List.setIfInBounds_toArray, List.set_cons_zero, List.set_cons_succ]
  refine only_read (by rfl) (fun K hK => ?_)
  refine quiet_loadC 51 (.tmp 9) rfl (ab) (ao + k * 2) rfl ([.int .i64 a.lo, .int .i64 a.hi]) _ (fun w' hw' => fun j u hj => (hw'.cells ab _ hal (fun e => e.elim (fun e => by have := HAB.out; omega) (fun e => by have := HAB.out; omega))).trans (hra j u hj)) Try.underlying51 rfl (by kernel_rfl) ?_
  refine hK _ ?_
  clear hK K
  simp only [Act.put, List.setIfInBounds_toArray, List.set_cons_zero, List.set_cons_succ]
  refine only_read (by rfl) (fun K hK => ?_)
  refine quiet_runD 12 rfl (.pointer (some ⟨p, 1, none⟩)) (fun w => by kernel_rfl) ?_
  refine hK _ ?_
  clear hK K
  simp only [Act.put, List.setIfInBounds_toArray, List.set_cons_zero, List.set_cons_succ]
  refine only_read (by rfl) (fun K hK => ?_)
  refine quiet_load1 42 (.tmp 12) rfl (p) (1) rfl (.slice (some ⟨bb, bo, none⟩) n1 c1) _ (fun w' hw' => (hw'.cells p 1 hlg (fun e => e.elim (fun e => by omega) (fun e => by omega))).trans hb1) Try.underlying42 rfl ?_
  refine hK _ ?_
  clear hK K
  simp only [Act.put, List.setIfInBounds_toArray, List.set_cons_zero, List.set_cons_succ]
  refine only_read (by rfl) (fun K hK => ?_)
  go_big_quiet_op
  refine hK _ ?_
  clear hK K
  refine only_read (by rfl) (fun K hK => ?_)
  refine quiet_runD 15 rfl (.pointer (some ⟨bb, bo + k * 2, none⟩)) (fun w => by go_simp) ?_
  refine hK _ ?_
  clear hK K
  simp only [Act.put, List.setIfInBounds_toArray, List.set_cons_zero, List.set_cons_succ]
  refine only_read (by rfl) (fun K hK => ?_)
  refine quiet_loadC 51 (.tmp 15) rfl (bb) (bo + k * 2) rfl ([.int .i64 b.lo, .int .i64 b.hi]) _ (fun w' hw' => fun j u hj => (hw'.cells bb _ hbl (fun e => e.elim (fun e => by have := HAB.out; omega) (fun e => by have := HAB.out; omega))).trans (hrb j u hj)) Try.underlying51 rfl (by kernel_rfl) ?_
  refine hK _ ?_
  clear hK K
  simp only [Act.put, List.setIfInBounds_toArray, List.set_cons_zero, List.set_cons_succ]
  refine only_act (by rfl) (fun K hK => ?_)
  go_wp2_with (go_at_call 51; refine (to_ a.lo a.hi 5 W5).mono ?_; rintro e V1 ⟨rfl, hx⟩)
  have HS1 := hid (Only.transExt HS0.out hx)
  have HE1 := hid (Ext.trans HE0.out hx)
  refine ⟨_, Only.refl _ _, HS1.out, ?_⟩
  clear hx
  refine only_act (by rfl) (fun K hK => ?_)
  go_wp2_with (go_at_call 51; refine (to_ b.lo b.hi 27 V1).mono ?_; rintro e V2 ⟨rfl, hx⟩)
  have HS2 := hid (Only.transExt HS1.out hx)
  have HE2 := hid (Ext.trans HE1.out hx)
  refine ⟨_, Only.refl _ _, HS2.out, ?_⟩
  clear hx
  have r1 := HG1.out.ext HE2.out
  have r2 := HG2.out.ext HE2.out
  have r1l := r1.lt
  have r2l := r2.lt
  have r1c0 := r1.range 0 _ rfl
  have r1f0 := r1.free 0 (by decide)
  have r1c1 := r1.range 1 _ rfl
  have r1f1 := r1.free 1 (by decide)
  have r1c2 := r1.range 2 _ rfl
  have r1f2 := r1.free 2 (by decide)
  have r1c3 := r1.range 3 _ rfl
  have r1f3 := r1.free 3 (by decide)
  have r1c4 := r1.range 4 _ rfl
  have r1f4 := r1.free 4 (by decide)
  have r1c5 := r1.range 5 _ rfl
  have r1f5 := r1.free 5 (by decide)
  have r2c0 := r2.range 0 _ rfl
  have r2f0 := r2.free 0 (by decide)
  have r2c1 := r2.range 1 _ rfl
  have r2f1 := r2.free 1 (by decide)
  have r2c2 := r2.range 2 _ rfl
  have r2f2 := r2.free 2 (by decide)
  have r2c3 := r2.range 3 _ rfl
  have r2f3 := r2.free 3 (by decide)
  have r2c4 := r2.range 4 _ rfl
  have r2f4 := r2.free 4 (by decide)
  have r2c5 := r2.range 5 _ rfl
  have r2f5 := r2.free 5 (by decide)
  simp only [Nat.zero_add] at r1c1 r1c2 r1c3 r1c4 r1c5 r1f1 r1f2 r1f3 r1f4 r1f5 r2c1 r2c2 r2c3 r2c4 r2c5 r2f1 r2f2 r2f3 r2f4 r2f5
  clear r1 r2
  refine only_act (by rfl) (fun K hK => ?_)
  go_wp2_with fail
  refine ⟨_, Only.refl _ _, (Only.setCell (S := (fun i => i = g1 ∨ i = g2)) (Only.setCell (S := (fun i => i = g1 ∨ i = g2)) (Only.setCell (S := (fun i => i = g1 ∨ i = g2)) (Only.setCell (S := (fun i => i = g1 ∨ i = g2)) (Only.setCell (S := (fun i => i = g1 ∨ i = g2)) (Only.setCell (S := (fun i => i = g1 ∨ i = g2)) HS2.out (.inl (.inl rfl)) (o := 0) (.bool true)) (.inl (.inl rfl)) (o := 1) (.int .i64 a.lo)) (.inl (.inl rfl)) (o := 2) (.int .i64 a.hi)) (.inl (.inl rfl)) (o := 3) (.int .i64 a.lo)) (.inl (.inl rfl)) (o := 4) (.int .i64 5)) (.inl (.inl rfl)) (o := 5) (.int .i64 0)), ?_⟩
  refine only_act (by rfl) (fun K hK => ?_)
  go_wp2_with fail
  refine ⟨_, Only.refl _ _, (Only.setCell (S := (fun i => i = g1 ∨ i = g2)) (Only.setCell (S := (fun i => i = g1 ∨ i = g2)) (Only.setCell (S := (fun i => i = g1 ∨ i = g2)) (Only.setCell (S := (fun i => i = g1 ∨ i = g2)) (Only.setCell (S := (fun i => i = g1 ∨ i = g2)) (Only.setCell (S := (fun i => i = g1 ∨ i = g2)) (Only.setCell (S := (fun i => i = g1 ∨ i = g2)) (Only.setCell (S := (fun i => i = g1 ∨ i = g2)) (Only.setCell (S := (fun i => i = g1 ∨ i = g2)) (Only.setCell (S := (fun i => i = g1 ∨ i = g2)) (Only.setCell (S := (fun i => i = g1 ∨ i = g2)) (Only.setCell (S := (fun i => i = g1 ∨ i = g2)) HS2.out (.inl (.inl rfl)) (o := 0) (.bool true)) (.inl (.inl rfl)) (o := 1) (.int .i64 a.lo)) (.inl (.inl rfl)) (o := 2) (.int .i64 a.hi)) (.inl (.inl rfl)) (o := 3) (.int .i64 a.lo)) (.inl (.inl rfl)) (o := 4) (.int .i64 5)) (.inl (.inl rfl)) (o := 5) (.int .i64 0)) (.inl (.inr rfl)) (o := 0) (.bool true)) (.inl (.inr rfl)) (o := 1) (.int .i64 b.lo)) (.inl (.inr rfl)) (o := 2) (.int .i64 b.hi)) (.inl (.inr rfl)) (o := 3) (.int .i64 b.lo)) (.inl (.inr rfl)) (o := 4) (.int .i64 27)) (.inl (.inr rfl)) (o := 5) (.int .i64 0)), ?_⟩
  refine only_nil ?_
  go_wp2_with fail
  refine bodyPost_ret (v := .tuple #[.agg #[.bool true, .int .i64 a.lo, .int .i64 a.hi, .int .i64 a.lo, .int .i64 5, .int .i64 0], .agg #[.bool true, .int .i64 b.lo, .int .i64 b.hi, .int .i64 b.lo, .int .i64 27, .int .i64 0]]) (by simp [results, Try.results49, go_sem, r1l, r2l, r1c0, r1c1, r1c2, r1c3, r1c4, r1c5, r2c0, r2c1, r2c2, r2c3, r2c4, r2c5, hg12, hg21]) rfl ⟨rfl, ?_⟩
  exact Ext.only HVg.out (Only.setCell (S := (fun i => i = g1 ∨ i = g2)) (Only.setCell (S := (fun i => i = g1 ∨ i = g2)) (Only.setCell (S := (fun i => i = g1 ∨ i = g2)) (Only.setCell (S := (fun i => i = g1 ∨ i = g2)) (Only.setCell (S := (fun i => i = g1 ∨ i = g2)) (Only.setCell (S := (fun i => i = g1 ∨ i = g2)) (Only.setCell (S := (fun i => i = g1 ∨ i = g2)) (Only.setCell (S := (fun i => i = g1 ∨ i = g2)) (Only.setCell (S := (fun i => i = g1 ∨ i = g2)) (Only.setCell (S := (fun i => i = g1 ∨ i = g2)) (Only.setCell (S := (fun i => i = g1 ∨ i = g2)) (Only.setCell (S := (fun i => i = g1 ∨ i = g2)) HS2.out (.inl (.inl rfl)) (o := 0) (.bool true)) (.inl (.inl rfl)) (o := 1) (.int .i64 a.lo)) (.inl (.inl rfl)) (o := 2) (.int .i64 a.hi)) (.inl (.inl rfl)) (o := 3) (.int .i64 a.lo)) (.inl (.inl rfl)) (o := 4) (.int .i64 5)) (.inl (.inl rfl)) (o := 5) (.int .i64 0)) (.inl (.inr rfl)) (o := 0) (.bool true)) (.inl (.inr rfl)) (o := 1) (.int .i64 b.lo)) (.inl (.inr rfl)) (o := 2) (.int .i64 b.hi)) (.inl (.inr rfl)) (o := 3) (.int .i64 b.lo)) (.inl (.inr rfl)) (o := 4) (.int .i64 27)) (.inl (.inr rfl)) (o := 5) (.int .i64 0)) (fun i hi => by rcases hi with rfl | rfl <;> omega)

end Go.Proofs.Ytgldlkoohfclpaa
