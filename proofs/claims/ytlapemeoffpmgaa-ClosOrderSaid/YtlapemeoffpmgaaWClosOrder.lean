/- Layer 6: the walk of ClosOrder. -/
import Derived.Test.YtlapemeoffpmgaaCloLr
namespace Go.Proofs.Ytlapemeoffpmgaa
set_option linter.unusedSimpArgs false
set_option linter.unusedVariables false
open Go.RowKit

theorem quiet_indexO {P : Program} {o : Oper} {a : Act} {C : World → Prop} {K : Act → Prop} (t : TypeId) (x i : Operand) (ho : o.op = .indexAddr t x i) (v : Value) (h : ∀ w, (execOp a.eval o).run P w = .ok (.value v) w) (k : K (a.put o.dst v)) : o.quiet P a C K := quiet_run v h k
def bkL (l : List Cap) : List Cap := l.reverse.flatMap fun x => [x, x]
theorem bkL_cons (x : Cap) (l : List Cap) : bkL (x :: l) = bkL l ++ [x, x] := by
  unfold bkL
  rw [List.reverse_cons, List.flatMap_append]
  rfl
theorem bkL_len : ∀ l : List Cap, (bkL l).length = 2 * l.length
  | [] => rfl
  | x :: l => by rw [bkL_cons, List.length_append, bkL_len l, List.length_cons]; simp; omega
theorem bkL_mem (l : List Cap) (x : Cap) : x ∈ l ↔ x ∈ bkL l := by
  unfold bkL
  simp
namespace closOrder
set_option linter.unusedSimpArgs false
set_option linter.unusedVariables false
set_option maxRecDepth 100000 in
set_option maxHeartbeats 8000000 in
theorem walk (A0 : Option Addr) (cap0 : Nat) (zs0 : List Cap) (t1 : Bool) (b1 tp1 at1 pm1 ty1 : Int) (w : World) (wl0 : zs0.length ≤ maxLen) (hs0 : SlAtN w A0 6 (zs0.map Cap.cells)) (wz0 : ∀ z ∈ zs0, wfC z) (wb1 : (Lit.int .i64 b1).wf = true) (wtp1 : (Lit.int .i64 tp1).wf = true) (wat1 : (Lit.int .i64 at1).wf = true) (wpm1 : (Lit.int .i64 pm1).wf = true) (wty1 : (Lit.int .i64 ty1).wf = true) :
    Calls Try.prog 9 #[.slice A0 zs0.length cap0, .agg #[.bool t1, .int .i64 b1, .int .i64 tp1, .int .i64 at1, .int .i64 pm1, .int .i64 ty1]] w fun e w' => e = .returned (.bool true) ∧ Ext w w' := by
  have HA := hid (rdF_of cap_len (by decide) hs0)
  clear hs0
  obtain ⟨m, hm⟩ : ∃ x, zs0.length = x := ⟨_, rfl⟩
  rw [hm]
  have HM := hid hm
  clear hm wl0
  by_cases hb : 30 < m
  · have hb1 : (30 : Int) < (m : Int) := by omega
    go_enter Try.func9, Try.ntmps9
    go_upto_region 1 with (fail)
    refine wp_gen (fun V => Hid (Ext w V) ∧ Hid (Row V (w.heap.size) 0 (Cap.cells (Cap.mk t1 b1 tp1 at1 pm1 ty1)))) ⟨hid (by repeat (first | (with_reducible exact Ext.refl _) | (with_reducible refine Ext.undrew ?_) | (with_reducible refine Ext.grow ?_ _) | (with_reducible refine Ext.drew ?_) | (with_reducible refine Ext.drewN ?_ _) | (with_reducible refine Ext.alloc ?_ _) | (with_reducible assumption) | ((with_reducible refine Ext.setCell ?_ ?_ _); rotate_left; (first | exact Nat.le_refl _ | ((try dsimp only); (try simp only [World.size_alloc, grow_size, World.size_setCell]); omega))))), hid (by have h9 := (Row.new w #[.bool t1, .int .i64 b1, .int .i64 tp1, .int .i64 at1, .int .i64 pm1, .int .i64 ty1] 24); exact h9)⟩ ?_
    rintro V ⟨HB, HR1⟩
    generalize w.heap.size = x1 at HR1 ⊢
    go_wp2_with fail
    refine (head_ _).mono ?_
    rintro e W1 ⟨rfl, hx⟩
    go_wp2
    go_ret
    exact ⟨rfl, HB.out.trans hx⟩
  · have hb1 : ¬ (30 : Int) < (m : Int) := by omega
    go_enter Try.func9, Try.ntmps9
    go_upto_region 1 with (fail)
    refine wp_gen (fun V => Hid (Ext w V) ∧ Hid (Row V (w.heap.size) 0 (Cap.cells (Cap.mk t1 b1 tp1 at1 pm1 ty1)))) ⟨hid (by repeat (first | (with_reducible exact Ext.refl _) | (with_reducible refine Ext.undrew ?_) | (with_reducible refine Ext.grow ?_ _) | (with_reducible refine Ext.drew ?_) | (with_reducible refine Ext.drewN ?_ _) | (with_reducible refine Ext.alloc ?_ _) | (with_reducible assumption) | ((with_reducible refine Ext.setCell ?_ ?_ _); rotate_left; (first | exact Nat.le_refl _ | ((try dsimp only); (try simp only [World.size_alloc, grow_size, World.size_setCell]); omega))))), hid (by have h9 := (Row.new w #[.bool t1, .int .i64 b1, .int .i64 tp1, .int .i64 at1, .int .i64 pm1, .int .i64 ty1] 24); exact h9)⟩ ?_
    rintro V ⟨HB, HR1⟩
    generalize w.heap.size = x1 at HR1 ⊢
    go_wp2_with fail
    refine (head_ _).mono ?_
    rintro e W1 ⟨rfl, hx1⟩
    have HXh := hid (HB.out.trans hx1)
    have HRh := hid (HR1.out.ext hx1)
    clear hx1 HB HR1
    go_wp2
    go_loopw [6, 7] (fun v i wr => ∃ r : Nat, r ≤ m ∧ i = .int .i64 ((r : Int) - 1) ∧ Hid (ownsAt wr W1.heap.size 24 6 v (bkL (zs0.drop r)).length (rowF Cap.cells (bkL (zs0.drop r)))) ∧ Hid (Ext W1 wr)) (fun _ i _ => (intOf i + 1).toNat)
    case atStart => exact ⟨m, Nat.le_refl _, rfl, hid (by rw [List.drop_eq_nil_of_le (by rw [HM.out]; exact Nat.le_refl _)]; exact ownsAt_nil _ _ _ _), hid (Ext.refl _)⟩
    case round =>
      obtain ⟨r, hr, rfl, HO, HX⟩ := hrel
      obtain ⟨Av, cv, rfl, _, _⟩ := HO.out.shape
      rcases r with _ | q
      · rw [show (((0 : Nat) : Int) - 1) = -1 from rfl, List.drop_zero]
        rw [List.drop_zero] at HO
        go_wp2_with fail
        refine (sNew A0 m cap0 zs0 wr (HA.out.ext (HXh.out.trans HX.out)) HM.out (by omega)).mono ?_
        rintro e W2 ⟨s, out, rfl, HS, HG, hx2⟩
        have hbl : (bkL zs0).length ≤ 60 := by rw [bkL_len, HM.out]; omega
        obtain ⟨mb, hmb⟩ : ∃ x, (bkL zs0).length = x := ⟨_, rfl⟩
        rw [hmb] at HO hbl ⊢
        have HMB := hid hmb
        clear hmb
        go_wp2_with fail
        refine (sNew Av mb cv (bkL zs0) W2 ((HO.out.ext hx2).rdF HMB.out) HMB.out (by omega)).mono ?_
        rintro e W3 ⟨t, out2, rfl, HT3, HG2, hx3⟩
        obtain rfl := out_same (bkL_mem zs0) HG.out HG2.out
        have HS3 := hid (HS.out.ext hx3)
        have HE3 := hid (HXh.out.trans (HX.out.trans (hx2.trans hx3)))
        have HRb := hid (HRh.out.ext (HX.out.trans (hx2.trans hx3)))
        have HSM := hid (hv_same (bkL_mem zs0) (Cap.mk t1 b1 tp1 at1 pm1 ty1))
        clear hx2 hx3 HO HX HG HG2 HS
        obtain ⟨v, hvv⟩ : ∃ v, hv zs0 (Cap.mk t1 b1 tp1 at1 pm1 ty1) = v := ⟨_, rfl⟩
        have HH1 : Hid (∀ W, Ext W3 W → Calls Try.prog 13 #[.pointer (some ⟨s, 0, none⟩), .agg #[.bool t1, .int .i64 b1, .int .i64 tp1, .int .i64 at1, .int .i64 pm1, .int .i64 ty1]] W fun e w' => e = .returned (.bool v) ∧ Ext W w') := hid (fun W hxx => by rw [← hvv]; exact sHas t1 b1 tp1 at1 pm1 ty1 W (HS3.out.ext hxx))
        have HH2 : Hid (∀ W, Ext W3 W → Calls Try.prog 13 #[.pointer (some ⟨t, 0, none⟩), .agg #[.bool t1, .int .i64 b1, .int .i64 tp1, .int .i64 at1, .int .i64 pm1, .int .i64 ty1]] W fun e w' => e = .returned (.bool v) ∧ Ext W w') := hid (fun W hxx => by rw [← hvv, HSM.out]; exact sHas t1 b1 tp1 at1 pm1 ty1 W (HT3.out.ext hxx))
        clear hvv HSM
        go_upto_region 11 with (fail)
        refine wp_region_step (.rd 0 (.rd 1 (.rd 2 (.rd 3 (.rd 4 (.rd 5 (.rd 6 (.rd 7 (.rd 8 (.rd 9 (.rd 10 (.rd 11 (.rd 13 (.rd 14 (.ac 12 (.ac 15 (.rd 16 (.rd 17 (.rd 18 (.rd 19 (.rd 21 (.ac 20 (.ac 22 (.ac 23 (.rd 24 (.rd 25 (.rd 26 (.rd 28 (.ac 27 (.ac 29 (.ac 30 (.rd 31 (.rd 32 .done))))))))))))))))))))))))))))))))) (by kernel_rfl) (by kernel_rfl) (fun _ _ d _ _ h => by cases d <;> exact h) (by simp only [Ord.map, nthOp, List.append]; rfl) ?_
        intro d0
        have HU0 := hid (Ext.grow (Ext.refl W3) d0)
        generalize Go.Proofs.Ytlapemeoffpmgaa.grow W3 d0 = U0 at HU0 ⊢
        obtain ⟨p0, p1, p2, p3, p4, p5, p6⟩ := Row.six (c := (Cap.mk t1 b1 tp1 at1 pm1 ty1)) (HRb.out.ext HU0.out)
        simp only [Nat.zero_add] at p2 p3 p4 p5 p6
        cases v
        all_goals
          refine step_read (by rfl) (fun K hK => ?_)
          go_big_quiet_op
          refine hK _ ?_
          clear hK K
          refine step_read (by rfl) (fun K hK => ?_)
          go_big_quiet_op
          refine hK _ ?_
          clear hK K
          refine step_read (by rfl) (fun K hK => ?_)
          go_big_quiet_op
          refine hK _ ?_
          clear hK K
          refine step_read (by rfl) (fun K hK => ?_)
          go_big_quiet_op
          refine hK _ ?_
          clear hK K
          refine step_read (by rfl) (fun K hK => ?_)
          go_big_quiet_op
          refine hK _ ?_
          clear hK K
          refine step_read (by rfl) (fun K hK => ?_)
          go_big_quiet_op
          refine hK _ ?_
          clear hK K
          refine step_read (by rfl) (fun K hK => ?_)
          go_big_quiet_op
          refine hK _ ?_
          clear hK K
          refine step_read (by rfl) (fun K hK => ?_)
          go_big_quiet_op
          refine hK _ ?_
          clear hK K
          refine step_read (by rfl) (fun K hK => ?_)
          go_big_quiet_op
          refine hK _ ?_
          clear hK K
          refine step_read (by rfl) (fun K hK => ?_)
          go_big_quiet_op
          refine hK _ ?_
          clear hK K
          refine step_read (by rfl) (fun K hK => ?_)
          go_big_quiet_op
          refine hK _ ?_
          clear hK K
          refine step_read (by rfl) (fun K hK => ?_)
          go_big_quiet_op
          refine hK _ ?_
          clear hK K
          refine step_read (by rfl) (fun K hK => ?_)
          go_big_quiet_op
          refine hK _ ?_
          clear hK K
          refine step_read (by rfl) (fun K hK => ?_)
          go_big_quiet_op
          refine hK _ ?_
          clear hK K
          refine step_act (by rfl) (fun K hK => ?_)
          go_wp2_with (go_at_call 13; refine (HH1.out _ HU0.out).mono ?_; rintro e U1 ⟨rfl, hx⟩)
          refine ⟨_, hx, Ext.refl _, ?_⟩
          have HU1 := hid (HU0.out.trans hx)
          have hx12 := hx
          clear hx HU0
          refine step_act (by rfl) (fun K hK => ?_)
          go_wp2_with (go_at_call 13; refine (HH2.out _ HU1.out).mono ?_; rintro e U2 ⟨rfl, hx⟩)
          refine ⟨_, hx, Ext.refl _, ?_⟩
          have HU2 := hid (HU1.out.trans hx)
          have hx15 := hx
          clear hx HU1
          refine step_read (by rfl) (fun K hK => ?_)
          go_big_quiet_op
          refine hK _ ?_
          clear hK K
          refine step_read (by rfl) (fun K hK => ?_)
          go_big_quiet_op
          refine hK _ ?_
          clear hK K
          refine step_read (by rfl) (fun K hK => ?_)
          go_big_quiet_op
          refine hK _ ?_
          clear hK K
          refine step_read (by rfl) (fun K hK => ?_)
          go_big_quiet_op
          refine hK _ ?_
          clear hK K
          refine step_read (by rfl) (fun K hK => ?_)
          go_big_quiet_op
          refine hK _ ?_
          clear hK K
          refine step_act (by rfl) (fun K hK => ?_)
          go_wp2_with (go_at_call 16; refine (sOpen _ (HS3.out.ext HU2.out)).mono ?_; rintro e U3 ⟨Ao1, co1, rfl, HR1o, HL1o, hx⟩)
          refine ⟨_, hx, Ext.refl _, ?_⟩
          have HU3 := hid (HU2.out.trans hx)
          have hx20 := hx
          clear hx HU2
          refine step_act (by rfl) (fun K hK => ?_)
          go_wp2_with (go_at_call 16; refine (sOpen _ (HT3.out.ext HU3.out)).mono ?_; rintro e U4 ⟨Ao2, co2, rfl, HR2o, _, hx⟩)
          refine ⟨_, hx, Ext.refl _, ?_⟩
          have HU4 := hid (HU3.out.trans hx)
          have hx22 := hx
          clear hx HU3
          refine step_act (by rfl) (fun K hK => ?_)
          go_wp2_with (go_at_call 15; refine (rsame6_ Ao1 _ co1 out Ao2 _ co2 out _ (HR1o.out.ext hx22) rfl HR2o.out rfl (by have := HL1o.out; have := HM.out; omega) (by have := HL1o.out; have := HM.out; omega)).mono ?_; rintro e U5 ⟨he, hx⟩; rw [decide_eq_true rfl] at he; subst he)
          refine ⟨_, hx, Ext.refl _, ?_⟩
          have HU5 := hid (HU4.out.trans hx)
          have hx23 := hx
          clear hx HU4
          refine step_read (by rfl) (fun K hK => ?_)
          go_big_quiet_op
          refine hK _ ?_
          clear hK K
          refine step_read (by rfl) (fun K hK => ?_)
          go_big_quiet_op
          refine hK _ ?_
          clear hK K
          refine step_read (by rfl) (fun K hK => ?_)
          go_big_quiet_op
          refine hK _ ?_
          clear hK K
          refine step_read (by rfl) (fun K hK => ?_)
          go_big_quiet_op
          refine hK _ ?_
          clear hK K
          refine step_act (by rfl) (fun K hK => ?_)
          go_wp2_with (go_at_call 19; refine (sTypes 64 _ (HS3.out.ext HU5.out)).mono ?_; rintro e U6 ⟨At1, ct1, mt1, rfl, hm1, HR1t, hx⟩)
          refine ⟨_, hx, Ext.refl _, ?_⟩
          have HU6 := hid (HU5.out.trans hx)
          have hx27 := hx
          clear hx HU5
          refine step_act (by rfl) (fun K hK => ?_)
          go_wp2_with (go_at_call 19; refine (sTypes 64 _ (HT3.out.ext HU6.out)).mono ?_; rintro e U7 ⟨At2, ct2, mt2, rfl, hm2, HR2t, hx⟩; obtain rfl : mt2 = mt1 := hm2.symm.trans hm1)
          refine ⟨_, hx, Ext.refl _, ?_⟩
          have HU7 := hid (HU6.out.trans hx)
          have hx29 := hx
          clear hx HU6
          refine step_act (by rfl) (fun K hK => ?_)
          go_wp2_with (go_at_call 18; refine (csameints_ At1 At2 _ ct1 ct2 (tyN out 64) _ (HR1t.out.ext hx29) HR2t.out hm1 (by have := tyN_len out 64; omega)).mono ?_; rintro e U8 ⟨rfl, hx⟩)
          refine ⟨_, hx, Ext.refl _, ?_⟩
          have HU8 := hid (HU7.out.trans hx)
          have hx30 := hx
          clear hx HU7
          refine step_read (by rfl) (fun K hK => ?_)
          go_big_quiet_op
          refine hK _ ?_
          clear hK K
          refine step_read (by rfl) (fun K hK => ?_)
          go_big_quiet_op
          refine hK _ ?_
          clear hK K
          refine step_nil ?_
          go_wp2
          go_ret
          exact ⟨rfl, HE3.out.trans HU8.out⟩
      · have hq1 : (((q + 1 : Nat) : Int) - 1) = (q : Int) := by omega
        rw [hq1]
        have hq0 : (0 : Int) ≤ (q : Int) := by omega
        have hqm : (q : Int) < (m : Int) := by omega
        have hql : q < zs0.length := by rw [HM.out]; omega
        obtain ⟨d, hd⟩ : ∃ d, zs0[q] = d := ⟨_, rfl⟩
        have HDR := hid (show bkL (zs0.drop q) = bkL (zs0.drop (q + 1)) ++ [(Cap.mk d.tag d.base d.top d.at_ d.perms d.type), (Cap.mk d.tag d.base d.top d.at_ d.perms d.type)] by rw [List.drop_eq_getElem_cons hql, hd]; exact bkL_cons d _)
        have HLN := hid (show (bkL (zs0.drop (q + 1))).length ≤ 1000 by rw [bkL_len, List.length_drop, HM.out]; omega)
        have HEL := hid (show ∀ W, Ext w W → _ from fun W hxx => (HA.out.ext hxx).elem cap_len hql d hd)
        obtain ⟨b', o', rfl, hb1, _⟩ := HEL.out w (Ext.refl _)
        clear hd hq1
        obtain ⟨vk, hvk⟩ : ∃ x, (Value.slice Av (bkL (zs0.drop (q + 1))).length cv) = x := ⟨_, rfl⟩
        rw [hvk] at HO ⊢
        clear hvk
        have HVN := hid (show ∀ g, vk.ownBlock = some g → W1.heap.size ≤ g from fun g e => (HO.out.lt g e).1)
        have HBw := hid (show b' < W1.heap.size from Nat.lt_of_lt_of_le hb1 HXh.out.size)
        go_upto_region 8 with (fail)
        refine wp_region_only (S := (fun i => vk.ownBlock = some i)) (.rd 0 (.rd 1 (.rd 2 (.rd 3 (.rd 4 (.rd 5 (.rd 6 (.rd 7 (.rd 8 (.ac 9 (.ac 10 (.rd 11 .done)))))))))))) (by kernel_rfl) (by kernel_rfl) (fun _ _ d _ _ h => by cases d <;> exact h) (by simp only [Ord.map, nthOp, List.append]; rfl) ?_
        intro d1
        have HX4 := hid (Ext.grow (Ext.refl wr) d1)
        have HO4 := hid (HO.out.ext (Ext.grow (Ext.refl wr) d1))
        generalize Go.Proofs.Ytlapemeoffpmgaa.grow wr d1 = W4 at HX4 HO4 ⊢
        have HBS := hid (show W1.heap.size ≤ W4.heap.size from Nat.le_trans HX.out.size HX4.out.size)
        have HRA := hid (show ∀ w', Only (fun i => vk.ownBlock = some i) W4 w' → w'.rangeAt b' (o' + q * 6) (Cap.cells (Cap.mk d.tag d.base d.top d.at_ d.perms d.type)) from fun w' hw' => by
          obtain ⟨b2, o2, e2, hb2, hr2⟩ := HEL.out W4 (HXh.out.trans (HX.out.trans HX4.out))
          simp only [Option.some.injEq, Addr.mk.injEq, and_true] at e2
          obtain ⟨rfl, rfl⟩ := e2
          intro j u hj
          exact (hw'.cells b' _ hb2 (fun e => by have := HVN.out b' e; have := HBw.out; omega)).trans (hr2 j u hj))
        refine only_read (by rfl) (fun K hK => ?_)
        go_big_quiet_op
        refine hK _ ?_
        clear hK K
        refine only_read (by rfl) (fun K hK => ?_)
        go_big_quiet_op
        refine hK _ ?_
        clear hK K
        refine only_read (by rfl) (fun K hK => ?_)
        go_big_quiet_op
        refine hK _ ?_
        clear hK K
        refine only_read (by rfl) (fun K hK => ?_)
        refine quiet_runD 25 rfl (.pointer (some ⟨b', o' + q * 6, none⟩)) (fun w => by go_simp) ?_
        refine hK _ ?_
        clear hK K
        simp only [Act.put, List.setIfInBounds_toArray, List.set_cons_zero, List.set_cons_succ]
        refine only_read (by rfl) (fun K hK => ?_)
        refine quiet_loadC 24 (.tmp 25) rfl b' (o' + q * 6) rfl (Cap.cells (Cap.mk d.tag d.base d.top d.at_ d.perms d.type)) _ (fun w' hw' => HRA.out w' hw') Try.underlying24 rfl (by kernel_rfl) ?_
        refine hK _ ?_
        clear hK K
        simp only [Act.put, List.setIfInBounds_toArray, List.set_cons_zero, List.set_cons_succ]
        refine only_read (by rfl) (fun K hK => ?_)
        go_big_quiet_op
        refine hK _ ?_
        clear hK K
        refine only_read (by rfl) (fun K hK => ?_)
        go_big_quiet_op
        refine hK _ ?_
        clear hK K
        refine only_read (by rfl) (fun K hK => ?_)
        refine quiet_runD 29 rfl (.pointer (some ⟨b', o' + q * 6, none⟩)) (fun w => by go_simp) ?_
        refine hK _ ?_
        clear hK K
        simp only [Act.put, List.setIfInBounds_toArray, List.set_cons_zero, List.set_cons_succ]
        refine only_read (by rfl) (fun K hK => ?_)
        refine quiet_loadC 24 (.tmp 29) rfl b' (o' + q * 6) rfl (Cap.cells (Cap.mk d.tag d.base d.top d.at_ d.perms d.type)) _ (fun w' hw' => HRA.out w' hw') Try.underlying24 rfl (by kernel_rfl) ?_
        refine hK _ ?_
        clear hK K
        simp only [Act.put, List.setIfInBounds_toArray, List.set_cons_zero, List.set_cons_succ]
        refine only_act (by rfl) (fun K hK => ?_)
        refine wp_build2 22 24 (.tmp 26) (.tmp 30) rfl #[.bool d.tag, .int .i64 d.base, .int .i64 d.top, .int .i64 d.at_, .int .i64 d.perms, .int .i64 d.type] #[.bool d.tag, .int .i64 d.base, .int .i64 d.top, .int .i64 d.at_, .int .i64 d.perms, .int .i64 d.type] 6 rfl rfl rfl rfl (by omega) (by omega) Try.underlying22 (by kernel_rfl) (by kernel_rfl) ?_
        refine hK _ _ ⟨_, Only.refl _ _, Only.ofExt (Ext.alloc (Ext.refl _) _), ?_⟩
        refine only_gen (fun W => Hid (Ext W4 W) ∧ Hid (Row W W4.heap.size 0 (Cap.cells (Cap.mk d.tag d.base d.top d.at_ d.perms d.type) ++ Cap.cells (Cap.mk d.tag d.base d.top d.at_ d.perms d.type)))) ⟨hid (Ext.alloc (Ext.refl _) _), hid (Row.new W4 (#[.bool d.tag, .int .i64 d.base, .int .i64 d.top, .int .i64 d.at_, .int .i64 d.perms, .int .i64 d.type] ++ #[.bool d.tag, .int .i64 d.base, .int .i64 d.top, .int .i64 d.at_, .int .i64 d.perms, .int .i64 d.type]) 24)⟩ ?_
        clear hK K
        rintro w4 ⟨hE4, hR4⟩
        refine only_act (by rfl) (fun K hK => ?_)
        refine wp_app_row cap_len (by decide) cap_one Try.underlying22 info_capN (.tmp 22) (.tmp 31) rfl W1.heap.size vk (bkL (zs0.drop (q + 1))).length (rowF Cap.cells (bkL (zs0.drop (q + 1)))) rfl (HO4.out.ext hE4.out) (some ⟨W4.heap.size, 0, none⟩) 2 2 [(Cap.mk d.tag d.base d.top d.at_ d.perms d.type), (Cap.mk d.tag d.base d.top d.at_ d.perms d.type)] rfl rfl (rdF_two6 hR4.out) (by have := HLN.out; unfold maxLen; omega) (by have := HLN.out; omega) (Nat.le_trans HBS.out hE4.out.size) ?_
        intro v6 w6 hown6 hgrow hat
        obtain ⟨A6, c6, hv6, _, _⟩ := hown6.shape
        subst hv6
        have HO6 : Hid (ownsAt w6 W1.heap.size 24 6 (.slice A6 ((bkL (zs0.drop (q + 1))).length + 2) c6) (bkL (zs0.drop q)).length (rowF Cap.cells (bkL (zs0.drop q)))) := hid (by rw [HDR.out, rowF_append, List.length_append]; exact hown6)
        have HX6 : Hid (Ext W1 w6) := hid (Ext.only (HX.out.trans (HX4.out.trans hE4.out)) (grownOnly (S := fun i => W1.heap.size ≤ i) hgrow fun g e => ((HO4.out.lt g e).1)) fun i hi => hi)
        have hS6 : Hid (Only (fun i => vk.ownBlock = some i) W4 w6) := hid (Only.trans' (Only.ofExt hE4.out) (grownOnly hgrow fun g hg => hg))
        refine hK _ _ ⟨_, Only.refl _ _, hS6.out, ?_⟩
        clear hK K hgrow hR4 hE4 hat hown6 hS6
        simp only [Act.put, List.setIfInBounds_toArray, List.set_cons_zero, List.set_cons_succ]
        refine only_read (by rfl) (fun K hK => ?_)
        go_big_quiet_op
        refine hK _ ?_
        clear hK K
        refine only_nil ?_
        go_wp2
        go_roundw
        case rel => exact ⟨q, by omega, by go_num, HO6, HX6⟩
        case measure => simp [intOf]
end closOrder

end Go.Proofs.Ytlapemeoffpmgaa
