/- The walk of ExtentApart. -/
import Derived.Test.YtkjakaoimbmcjaaExtY
import Derived.Deep.DeepCutAuto
namespace Go.Proofs.Ytkjakaoimbmcjaa
set_option linter.unusedSimpArgs false
set_option linter.unusedVariables false
open Go.RowKit

open Go.Deep Go.RowKit
namespace extentApart
set_option maxRecDepth 100000 in
set_option maxHeartbeats 8000000 in
theorem walk (a0 : Int) (A1 : Option Addr) (cap1 : Nat) (zs1 : List EOp) (w : World) (w0 : (Lit.int .u8 a0).wf = true) (wl1 : zs1.length ≤ maxLen) (hs1 : SlAtN w A1 3 (zs1.map EOp.cells)) (wz1 : ∀ z ∈ zs1, z.good) :
    Calls Try.prog 4 #[.int .u8 a0, .slice A1 zs1.length cap1] w fun e w' => e = .returned (.bool true) ∧ Ext w w' := by
  have ha0' : 0 ≤ a0 ∧ a0 ≤ 255 := by simpa [Lit.wf, IntKind.min, IntKind.max, IntKind.signed, IntKind.bits] using w0
  obtain ⟨ha0, ha0h⟩ := ha0'
  clear w0
  unfold maxLen at wl1
  obtain ⟨tq, hto⟩ : ∃ x, 32 + 16 * a0 = x := ⟨_, rfl⟩
  have HTO := hid hto
  have hto1 : 32 ≤ tq := by omega
  have hto9 : tq ≤ 4112 := by omega
  have hto2 : tq ≤ 16777216 := by omega
  have hto3 : g16 tq = true := by rw [← hto]; exact g16_add (by decide) (g16_mul _)
  clear hto
  have HSL := hid hs1
  clear hs1 wz1
  obtain ⟨i0, z0, hi0, hz0, hz1, hz2, hz3, _⟩ := pr_info
  have HI0 := hid hi0
  have HZ0 := hid hz0
  clear hi0 hz0
  by_cases hlen : zs1.length ≤ 200
  · have hli : ¬ (200 : Int) < (zs1.length : Int) := by omega
    go_enter Try.func4, Try.ntmps4
    go_upto_region 2 with (go_at_call 8; refine Calls.mono (head_ _) ?_; rintro e wh ⟨rfl, hxh⟩)
    go_upto_region 3 with (rw [HTO.out]; (go_at_call 9; with_reducible refine (yNew2 32 tq _ (by decide) hto1 hto2 (by decide) hto3).mono ?_; rintro e w1 ⟨q, v1, l1, rfl, HF1, HL1⟩))
    have HB0 := hid (FH.new (HF1.out.start hxh hxh.size))
    have HIS := hid (OA.start HL1.out.1 HL1.out.2)
    clear HF1 hxh HL1
    generalize wh.heap.size = base at HB0
    obtain ⟨bh, hbh⟩ : ∃ x, w1.heap.size = x := ⟨_, rfl⟩
    rw [hbh] at HB0
    clear hbh
    go_wp2
    go_loopw [7, 8] (fun vh i wr => ∃ (k : Nat) (v : Value) (l m : List Pr), k ≤ zs1.length ∧ i = .int .i64 k ∧ m.length ≤ k ∧ Hid (FH w wr q base 32 tq v l bh vh m) ∧ Hid (OA 32 tq l m)) (fun _ i _ => zs1.length - (intOf i).toNat)
    case atStart => exact ⟨0, _, _, [], Nat.zero_le _, rfl, Nat.zero_le _, HB0, HIS⟩
    case round =>
      clear HB0 HIS
      obtain ⟨k, v, l, m, hk, rfl, hm, HB, HI⟩ := hrel
      by_cases hlt : k < zs1.length
      · obtain ⟨z, hz⟩ : ∃ z, zs1[k] = z := ⟨_, rfl⟩
        obtain ⟨b0, o0, rfl, hb0, hop⟩ := EOp.facts HSL.out hlt z hz
        have HOP := hid (rg_ext hop hb0 HB.out.ex)
        have hcw : wr.cell? ⟨b0, o0 + k * 3, none⟩ = some (.int .i64 z.what) := HOP.out 0 _ rfl
        have hca : wr.cell? ⟨b0, o0 + k * 3 + 1, none⟩ = some (.int .i64 z.at_) := HOP.out 1 _ rfl
        have hcn : wr.cell? ⟨b0, o0 + k * 3 + 2, none⟩ = some (.int .i64 z.n) := HOP.out 2 _ rfl
        have hcn0 : w.cell? ⟨b0, o0 + k * 3 + 2, none⟩ = some (.int .i64 z.n) := hop 2 _ rfl
        clear hop hz
        have hk1 : (k : Int) < (zs1.length : Int) := by omega
        have hk0 : k + 1 ≤ zs1.length := by omega
        have hk3 : (0 : Int) ≤ (k : Int) := by omega
        obtain ⟨⟨⟨xa, xb⟩, l2⟩, ht⟩ : ∃ t, takeF z.n l = t := ⟨_, rfl⟩
        go_upto_if 46 with (fail)
        go_cut [7] (fun vx wx => ∃ (vv : Value) (ll mm : List Pr), mm.length ≤ k + 1 ∧ Hid (FH w wx q base 32 tq vv ll bh vx mm) ∧ Hid (OA 32 tq ll mm))
        case first =>
          by_cases hw : z.what < 3
          · skip
            go_upto_region 11 with (go_at_call 11; with_reducible refine (hTake w q base 32 tq _ _ bh _ _ _ HB.out z.n xa xb l2 ht).mono ?_; rintro e w4 ⟨v4, rfl, HB4, HO4⟩)
            have hcn4 : w4.cell? ⟨b0, o0 + k * 3 + 2, none⟩ = some (.int .i64 z.n) := (HB4.out.ex.cells b0 _ hb0).trans hcn0
            cases xb with
            | false =>
              obtain rfl : l2 = l := takeF_same ht
              go_wp2_with fail
              go_meet
              exact ⟨_, _, _, by omega, HB4, HI⟩
            | true =>
              obtain ⟨f1, f2, f3⟩ := HI.out.fits HB.out.hf.2.1 ht
              have hsw : wrap64 (xa + z.n) = xa + z.n := wrapP (by omega) (by omega)
              go_wp2_with (at_builtin; refine wpList_plain rfl fun K hK => ?_; refine wp_append_at _ _ _ 35 rfl bh 38 i0 z0 2 16 Try.underlying35 HI0.out HZ0.out hz2 hz3 hz1 (by decide) _ _ _ rfl (HB4.out.hh.ext (Ext.alloc (Ext.refl _) _)) ⟨w4.heap.size, 0, none⟩ 1 1 (Pr.cells ⟨xa, xa + z.n⟩) rfl rfl (fun j u hj => by rw [Addr.add_lit]; exact (Row.new w4 _ _).range j u hj) (pr_one ⟨xa, xa + z.n⟩) (by unfold maxLen; omega) (by omega) (by have := HB4.out.bs; simp; omega) (by omega) ?_; intro v5 w5 hown5 hgrow5 hat5; refine hK _ _ ?_; clear hK K)
              have HB5 : Hid (FH w w5 q base 32 tq v4 l2 bh v5 (m ++ [Pr.mk xa (xa + z.n)])) := hid ((HB4.out.ext (Ext.alloc (Ext.refl _) _)).app (by rw [prList_append, prList_one, List.length_append]; exact hown5) hgrow5 hat5)
              go_meet
              exact ⟨_, _, _, by rw [List.length_append]; simp; omega, HB5, hid (HI.out.add HB.out.hf.2.1 ht)⟩
          · skip
            obtain ⟨A, c, rfl, hmc, hAn⟩ := HB.out.hh.shape
            by_cases hm0 : 0 < m.length
            · have hm1 : (0 : Int) < (m.length : Int) := by omega
              have hnz : ¬ (m.length : Int) = 0 := by omega
              obtain ⟨a40, a41⟩ := and4095 z.at_
              go_upto_region 15 with (fail)
              obtain ⟨x, hx⟩ : ∃ x : Nat, bits .and .i64 z.at_ 4095 % (m.length : Int) = (x : Int) := ⟨(bits .and .i64 z.at_ 4095 % (m.length : Int)).toNat, by have := Int.emod_nonneg (bits .and .i64 z.at_ 4095) hnz; omega⟩
              have hxi : (x : Int) < (m.length : Int) := by rw [← hx]; exact Int.emod_lt_of_pos _ (by omega)
              rw [hx]
              clear hx a40 a41
              have hxl : x < m.length := by omega
              have hxi0 : (0 : Int) ≤ (x : Int) := by omega
              obtain ⟨g, o, rfl, hg0, d0, d1⟩ := (HB.out.hh.rdP rfl).two hxl
              have hng : ¬ nvh (Value.slice (some ⟨g, o, none⟩) m.length c) g := fun e => e rfl
              have hc1 := HI.out.can HB.out.hf.2.1 hxl
              have HI2 := hid (HI.out.give HB.out.hf.2.1 hxl)
              have hb := (HI.out.held.ok _ (List.getElem_mem hxl)).2.2
              obtain ⟨at1, ha1⟩ : ∃ z, (m[x]).lo = z := ⟨_, rfl⟩
              obtain ⟨e1, he1⟩ : ∃ z, (m[x]).hi = z := ⟨_, rfl⟩
              rw [ha1, he1] at hc1 HI2 hb
              rw [ha1] at d0
              rw [he1] at d1
              obtain ⟨hb0', hb1', hb2'⟩ := hb
              have HSW : Hid (IntKind.i64.wrap (e1 - at1) = e1 - at1) := hid (by rw [IntKind.wrap_i64]; omega)
              clear ha1 he1 hAn
              refine wp_region_only (S := nvh (Value.slice (some ⟨g, o, none⟩) m.length c)) (.rd 0 (.rd 1 (.rd 2 (.rd 3 (.rd 4 (.rd 5 (.rd 6 (.rd 7 (.rd 8 (.rd 9 (.rd 10 (.rd 11 (.rd 12 (.rd 13 (.rd 14 (.rd 15 (.rd 16 (.ac 17 (.rd 18 .done))))))))))))))))))) (by kernel_rfl) (by kernel_rfl) (fun _ _ d _ _ h => by cases d <;> exact h) (by simp only [Ord.map, nthOp, List.append]; rfl) ?_
              intro d0'
              have hx0 : Ext wr (Go.Proofs.Ytkjakaoimbmcjaa.grow wr d0') := Ext.grow (Ext.refl _) d0'
              have HB1 := hid (HB.out.ext hx0)
              replace d0 := (hx0.cells g _ hg0).trans d0
              replace d1 := (hx0.cells g _ hg0).trans d1
              replace hg0 := Nat.lt_of_lt_of_le hg0 hx0.size
              generalize Go.Proofs.Ytkjakaoimbmcjaa.grow wr d0' = W2 at HB1 hg0 d0 d1 ⊢
              clear HB hx0
              repeat' (first | (refine only_read (by rfl) (fun K hK => ?_); (refine quiet_index 35 _ _ rfl ⟨g, o, none⟩ m.length c x 2 rfl rfl hxl (by kernel_rfl) (fun w => by kernel_rfl) ?_; rw [Addr.add_lit]); refine hK _ ?_; clear hK K; simp only [Act.put, List.setIfInBounds_toArray, List.set_cons_zero, List.set_cons_succ]) | (refine only_read (by rfl) (fun K hK => ?_); refine quiet_runD 86 rfl (.pointer (some ⟨g, o + x * 2 + 0, none⟩)) (fun w => by kernel_rfl) ?_; refine hK _ ?_; clear hK K; simp only [Act.put, List.setIfInBounds_toArray, List.set_cons_zero, List.set_cons_succ]) | (refine only_read (by rfl) (fun K hK => ?_); refine quiet_runD 91 rfl (.pointer (some ⟨g, o + x * 2 + 1, none⟩)) (fun w => by kernel_rfl) ?_; refine hK _ ?_; clear hK K; simp only [Act.put, List.setIfInBounds_toArray, List.set_cons_zero, List.set_cons_succ]) | (refine only_read (by rfl) (fun K hK => ?_); refine quiet_runD 96 rfl (.pointer (some ⟨g, o + x * 2 + 0, none⟩)) (fun w => by kernel_rfl) ?_; refine hK _ ?_; clear hK K; simp only [Act.put, List.setIfInBounds_toArray, List.set_cons_zero, List.set_cons_succ]) | (refine only_read (by rfl) (fun K hK => ?_); refine quiet_load1 3 _ rfl g (o + x * 2 + 0) rfl (.int .i64 at1) _ (fun w' hw' => (hw'.cells g _ hg0 hng).trans d0) Try.underlying3 rfl ?_; refine hK _ ?_; clear hK K; simp only [Act.put, List.setIfInBounds_toArray, List.set_cons_zero, List.set_cons_succ]) | (refine only_read (by rfl) (fun K hK => ?_); refine quiet_load1 3 _ rfl g (o + x * 2 + 1) rfl (.int .i64 e1) _ (fun w' hw' => (hw'.cells g _ hg0 hng).trans d1) Try.underlying3 rfl ?_; refine hK _ ?_; clear hK K; simp only [Act.put, List.setIfInBounds_toArray, List.set_cons_zero, List.set_cons_succ]) | (refine only_read (by rfl) (fun K hK => ?_); refine quiet_runD 98 rfl (.int .i64 (IntKind.i64.wrap (e1 - at1))) (fun w => by kernel_rfl) ?_; rw [HSW.out]; refine hK _ ?_; clear hK K; simp only [Act.put, List.setIfInBounds_toArray, List.set_cons_zero, List.set_cons_succ]) | (refine only_read (by rfl) (fun K hK => ?_); go_big_quiet_op; refine hK _ ?_; clear hK K))
              refine only_act (by rfl) (fun K hK => ?_)
              go_wp2_with (go_at_call 13; refine (hGive w q base 32 tq _ _ bh _ _ _ HB1.out at1 (e1 - at1) hc1).mono ?_; rintro e w3 ⟨v3, rfl, HB3, HO3⟩)
              refine ⟨_, Only.refl _ _, HO3.out, ?_⟩
              repeat' (first | (refine only_read (by rfl) (fun K hK => ?_); refine quiet_runD 100 rfl (.bool false) (fun w => by kernel_rfl) ?_; refine hK _ ?_; clear hK K; simp only [Act.put, List.setIfInBounds_toArray, List.set_cons_zero, List.set_cons_succ]) | (refine only_read (by rfl) (fun K hK => ?_); go_big_quiet_op; refine hK _ ?_; clear hK K))
              refine only_nil ?_
              have hlo : (x : Int) + 1 ≤ (m.length : Int) := by omega
              have hxc : (x : Int) ≤ (c : Int) := by omega
              have hxc1 : (x : Int) + 1 ≤ (c : Int) := by omega
              have hmci : (m.length : Int) ≤ (c : Int) := by omega
              clear HB1 HO3 hc1 d0 d1
              have HR3 := hid (HB3.out.hh.rdP rfl)
              have herl : (m.eraseIdx x).length = m.length - 1 := List.length_eraseIdx_of_lt hxl
              go_upto_region 17 with (fail)
              refine wp_region_step (.rd 1 (.rd 2 (.rd 3 (.rd 5 (.rd 6 (.rd 7 (.rd 8 (.ac 0 (.ac 4 (.ac 9 (.rd 10 .done))))))))))) (by kernel_rfl) (by kernel_rfl) (fun _ _ d _ _ h => by cases d <;> exact h) (by simp only [Ord.map, nthOp, List.append]; rfl) ?_
              intro d0'
              have hx0 : Ext w3 (Go.Proofs.Ytkjakaoimbmcjaa.grow w3 d0') := Ext.grow (Ext.refl _) d0'
              have HB4 := hid (HB3.out.ext hx0)
              have HR4 := hid (HR3.out.ext hx0)
              generalize Go.Proofs.Ytkjakaoimbmcjaa.grow w3 d0' = W4 at HB4 HR4 ⊢
              clear HB3 HR3 hx0
              by_cases hcx : c = x + 1
              · have hcx1 : (c : Int) = (x : Int) + 1 := by omega
                subst hcx
                clear hcx1
                have HRD : Hid (RdP W4 (some ⟨g, o, none⟩) (m.drop (x + 1))) := hid (by rw [List.drop_of_length_le (by omega)]; exact RdP.nil _ _)
                repeat' (first | (refine step_read (by rfl) (fun K hK => ?_); go_big_quiet_op; refine hK _ ?_; clear hK K))
                refine step_act (by rfl) (fun K hK => ?_)
                go_wp2_with fail
                refine ⟨_, Ext.refl _, Ext.alloc (Ext.refl _) _, ?_⟩
                refine step_act (by rfl) (fun K hK => ?_)
                refine wp_app_any _ _ rfl W4.heap.size (.slice (some ⟨W4.heap.size, 0, none⟩) 0 0) 0 [] rfl (ownsAt_of (owns_empty W4 38 2)) (some ⟨g, o, none⟩) x (x + 1) (m.take x) rfl (by rw [List.length_take]; omega) ((HR4.out.take x).ext (Ext.alloc (Ext.refl _) _)) (by omega) (by simp) ?_
                intro v7 w7 hown7 hgrow7 hat7
                have hx7 : Ext W4 w7 := Ext.only (Ext.alloc (Ext.refl W4) _) (grownOnly (S := fun i => i = W4.heap.size) hgrow7 (fun g hg => by simpa [Value.ownBlock, eq_comm] using hg)) (by rintro i rfl; exact Nat.le_refl _)
                refine hK _ _ ⟨_, Ext.refl _, hx7, ?_⟩
                clear hK K
                simp only [Act.put, List.setIfInBounds_toArray, List.set_cons_zero, List.set_cons_succ]
                refine step_act (by rfl) (fun K hK => ?_)
                refine wp_app_any _ _ rfl W4.heap.size v7 (0 + x) ([] ++ m.take x) rfl hown7 (some ⟨g, o, none⟩) 0 0 (m.drop (x + 1)) rfl (by rw [List.length_drop]; try omega) (HRD.out.ext hx7) (by omega) (by have := hx7.size; omega) ?_
                intro v9 w9 hown9 hgrow9 hat9
                have hx9 : Ext W4 w9 := Ext.only hx7 (grownOnly (S := fun i => v7.ownBlock = some i) hgrow9 fun g e => e) (fun i hi => (hown7.lt i hi).1)
                refine hK _ _ ⟨_, Ext.refl _, hx9, ?_⟩
                clear hK K
                simp only [Act.put, List.setIfInBounds_toArray, List.set_cons_zero, List.set_cons_succ]
                repeat' (first | (refine step_read (by rfl) (fun K hK => ?_); go_big_quiet_op; refine hK _ ?_; clear hK K))
                refine step_nil ?_
                have HB9 : Hid (FH w w9 q base 32 tq v3 _ bh v9 (m.eraseIdx x)) := hid (HB4.out.renew hx9 (by
                  rw [List.eraseIdx_eq_take_drop_succ]
                  have e : (m.take x ++ m.drop (x + 1)).length = 0 + x + 0 := by rw [List.length_append, List.length_take, List.length_drop]; omega
                  rw [e]
                  simpa using hown9))
                go_wp2
                go_meet
                exact ⟨_, _, _, by omega, HB9, HI2⟩
              · have hcx1 : ¬ (c : Int) = (x : Int) + 1 := by omega
                have HRD : Hid (RdP W4 (some ⟨g, o + (x + 1) * 2, none⟩) (m.drop (x + 1))) := hid (HR4.out.drop (x + 1))
                repeat' (first | (refine step_read (by rfl) (fun K hK => ?_); go_big_quiet_op; refine hK _ ?_; clear hK K))
                refine step_act (by rfl) (fun K hK => ?_)
                go_wp2_with fail
                refine ⟨_, Ext.refl _, Ext.alloc (Ext.refl _) _, ?_⟩
                refine step_act (by rfl) (fun K hK => ?_)
                refine wp_app_any _ _ rfl W4.heap.size (.slice (some ⟨W4.heap.size, 0, none⟩) 0 0) 0 [] rfl (ownsAt_of (owns_empty W4 38 2)) (some ⟨g, o, none⟩) x c (m.take x) rfl (by rw [List.length_take]; omega) ((HR4.out.take x).ext (Ext.alloc (Ext.refl _) _)) (by omega) (by simp) ?_
                intro v7 w7 hown7 hgrow7 hat7
                have hx7 : Ext W4 w7 := Ext.only (Ext.alloc (Ext.refl W4) _) (grownOnly (S := fun i => i = W4.heap.size) hgrow7 (fun g hg => by simpa [Value.ownBlock, eq_comm] using hg)) (by rintro i rfl; exact Nat.le_refl _)
                refine hK _ _ ⟨_, Ext.refl _, hx7, ?_⟩
                clear hK K
                simp only [Act.put, List.setIfInBounds_toArray, List.set_cons_zero, List.set_cons_succ]
                refine step_act (by rfl) (fun K hK => ?_)
                refine wp_app_any _ _ rfl W4.heap.size v7 (0 + x) ([] ++ m.take x) rfl hown7 (some ⟨g, o + (x + 1) * 2, none⟩) (m.length - (x + 1)) (c - (x + 1)) (m.drop (x + 1)) rfl (by rw [List.length_drop]; try omega) (HRD.out.ext hx7) (by omega) (by have := hx7.size; omega) ?_
                intro v9 w9 hown9 hgrow9 hat9
                have hx9 : Ext W4 w9 := Ext.only hx7 (grownOnly (S := fun i => v7.ownBlock = some i) hgrow9 fun g e => e) (fun i hi => (hown7.lt i hi).1)
                refine hK _ _ ⟨_, Ext.refl _, hx9, ?_⟩
                clear hK K
                simp only [Act.put, List.setIfInBounds_toArray, List.set_cons_zero, List.set_cons_succ]
                repeat' (first | (refine step_read (by rfl) (fun K hK => ?_); go_big_quiet_op; refine hK _ ?_; clear hK K))
                refine step_nil ?_
                have HB9 : Hid (FH w w9 q base 32 tq v3 _ bh v9 (m.eraseIdx x)) := hid (HB4.out.renew hx9 (by
                  rw [List.eraseIdx_eq_take_drop_succ]
                  have e : (m.take x ++ m.drop (x + 1)).length = 0 + x + (m.length - (x + 1)) := by rw [List.length_append, List.length_take, List.length_drop]; omega
                  rw [e]
                  simpa using hown9))
                go_wp2
                go_meet
                exact ⟨_, _, _, by omega, HB9, HI2⟩
            · have hm1 : ¬ (0 : Int) < (m.length : Int) := by omega
              go_wp2_with fail
              go_meet
              exact ⟨_, _, _, by omega, HB, HI⟩
        case rest =>
          obtain ⟨vv, ll, mm, hmm, HBX, HIX⟩ := hcut
          clear HB HI ht hcw hca hcn hcn0 HOP hm
          have hm3 : mm.length ≤ 201 := by omega
          have hlf6 : ll.length ≤ 1000000 := by
            rcases good_len ll 32 HBX.out.hf.2.1 with c | c
            · rw [c]; simp
            · omega
          have hlf7 : ll.length ≤ 4000 := by
            rcases good_len ll 32 HBX.out.hf.2.1 with c | c
            · rw [c]; simp
            · omega
          have HGD := hid HBX.out.hf.2.1
          go_upto_region 19 with (go_at_call 15; with_reducible refine (hAll w q base 32 tq _ _ bh _ _ _ HBX.out).mono ?_; rintro e w6 ⟨rfl, HB6, HX6⟩)
          obtain ⟨Ah, ch, hvh, _, _⟩ := HB6.out.hh.shape
          subst hvh
          have hs6 : w6.heap.size ≤ w6.heap.size := Nat.le_refl _
          go_upto_region 20 with (first | (at_builtin; refine wpList_plain rfl fun K hK => ?_; refine wp_app_any _ _ rfl w6.heap.size (.slice (some ⟨w6.heap.size, 0, none⟩) 0 0) 0 [] rfl (ownsAt_of (owns_empty w6 38 2)) Ah mm.length ch mm rfl rfl ((HB6.out.hh.rdP rfl).ext (Ext.alloc (Ext.refl _) _)) (by omega) (by simp) ?_; intro v7 w7 hown7 hgrow7 hat7; refine hK _ _ ?_; clear hK K; have hx7 : Ext w6 w7 := Ext.only (Ext.alloc (Ext.refl w6) _) (grownOnly (S := fun i => i = w6.heap.size) hgrow7 (fun g hg => by simpa [Value.ownBlock, eq_comm] using hg)) (by rintro i rfl; exact Nat.le_refl _); have HX7 := hid hx7; have HB7 := hid (HB6.out.ext hx7); have H7 := hid hown7; have H7lt := hid hown7.lt; clear hgrow7 hat7 hown7 hx7) | (go_at_call 20; with_reducible refine (hRuns w q base 32 tq _ _ bh _ _ _ HB7.out hlf6).mono ?_; rintro e w8 ⟨A8, c8, rfl, HR8, HB8, HX8, HN8⟩) | (at_builtin; refine wpList_plain rfl fun K hK => ?_; refine wp_app_any _ _ rfl w6.heap.size v7 (0 + mm.length) ([] ++ mm) rfl (H7.out.ext HX8.out) A8 ll.length c8 ll rfl rfl HR8.out (by omega) (by have := HX7.out.size; have := HX8.out.size; omega) ?_; intro v9 w9 hown9 hgrow9 hat9; refine hK _ _ ?_; clear hK K))
          have HB9 : Hid (FH w w9 q base 32 tq vv ll bh (.slice Ah mm.length ch) mm) := hid (HB6.out.ext (Ext.only (HX7.out.trans HX8.out) (grownOnly (S := fun i => v7.ownBlock = some i) hgrow9 fun g e => e) (fun i hi => (H7lt.out i hi).1)))
          obtain ⟨A9, c9, rfl, _, _⟩ := hown9.shape
          have HR9 : Hid (RdP w9 A9 (mm ++ ll)) := hid (hown9.rdP (by simp))
          have hlen9 : (mm ++ ll).length = 0 + mm.length + ll.length := by simp
          have HDS : Hid ((mm ++ ll).Pairwise (fun x y => ¬ (x.lo < y.hi ∧ y.lo < x.hi))) := hid (HIX.out.dis HGD.out)
          have HBD : Hid (∀ x ∈ mm ++ ll, 32 ≤ x.lo ∧ x.lo < x.hi ∧ x.hi ≤ tq) := hid (HIX.out.bd HGD.out)
          clear hown9 hgrow9 hat9 H7 HB8 HX8 HR8 HN8 H7lt HB7 HB6 HX6 HX7 HBX
          obtain ⟨L, hL⟩ : ∃ L, mm ++ ll = L := ⟨_, rfl⟩
          rw [hL] at HR9 hlen9 HDS HBD
          clear hL
          obtain ⟨N, hN⟩ : ∃ N, 0 + mm.length + ll.length = N := ⟨_, rfl⟩
          rw [hN] at hlen9 ⊢
          have hN5 : N ≤ 5000 := by omega
          have HLN := hid hlen9
          clear hN hlen9
          go_wp2
          go_loopw [14] (fun i wr => ∃ a : Nat, a ≤ N ∧ i = .int .i64 a ∧ Ext w9 wr) (fun i _ => N - (intOf i).toNat)
          case atStart => exact ⟨0, Nat.zero_le _, rfl, Ext.refl _⟩
          case round =>
            obtain ⟨a, ha, rfl, hxa⟩ := hrel
            by_cases hal : a < N
            · have ha1 : (a : Int) < (N : Int) := by omega
              have ha2 : (0 : Int) ≤ (a : Int) := by omega
              have haL : a < L.length := by have := HLN.out; omega
              go_wp2
              go_loopw [15] (fun i wr => ∃ b : Nat, a < b ∧ b ≤ N ∧ i = .int .i64 b ∧ Ext w9 wr) (fun i _ => N - (intOf i).toNat)
              case atStart => exact ⟨a + 1, Nat.lt_succ_self _, hal, by go_num, hxa⟩
              case round =>
                obtain ⟨b, hab, hb, rfl, hxb⟩ := hrel
                by_cases hbl : b < N
                · have hb1 : (b : Int) < (N : Int) := by omega
                  have hb2 : (0 : Int) ≤ (b : Int) := by omega
                  have hbL : b < L.length := by have := HLN.out; omega
                  obtain ⟨g5, o5, rfl, hg5, p0, p1⟩ := (HR9.out.ext hxb).two haL
                  obtain ⟨g6, o6, hgo, _, q0, q1⟩ := (HR9.out.ext hxb).two hbL
                  obtain ⟨rfl, rfl⟩ : g5 = g6 ∧ o5 = o6 := by simpa using hgo
                  clear hgo
                  have hd := (List.pairwise_iff_getElem.1 HDS.out) a b haL hbL hab
                  generalize hx1 : (L[a]).lo = x1 at *
                  generalize hx2 : (L[a]).hi = x2 at *
                  generalize hy1 : (L[b]).lo = y1 at *
                  generalize hy2 : (L[b]).hi = y2 at *
                  clear hx1 hx2 hy1 hy2
                  by_cases hc : x1 < y2
                  · have hd2 : ¬ y1 < x2 := fun h => hd ⟨hc, h⟩
                    clear hd
                    go_upto_region 26 with (fail)
                    refine wp_region_grow (by kernel_rfl) (by kernel_rfl) (by first | (simp only [List.append]; rfl) | rfl) ?_
                    (repeat (go_big_quiet_step (fail)))
                    refine wpQuiet_nil ?_
                    intro wq hq
                    obtain ⟨d, rfl⟩ := hq
                    go_wp2
                    go_roundw
                    case rel => exact ⟨b + 1, by omega, by omega, by go_num, (by repeat (first | (with_reducible exact Ext.refl _) | (with_reducible refine Ext.undrew ?_) | (with_reducible refine Ext.grow ?_ _) | (with_reducible refine Ext.drew ?_) | (with_reducible refine Ext.drewN ?_ _) | (with_reducible refine Ext.alloc ?_ _) | (with_reducible assumption) | ((with_reducible refine Ext.setCell ?_ ?_ _); rotate_left; (first | exact Nat.le_refl _ | ((try dsimp only); (try simp only [World.size_alloc, grow_size, World.size_setCell]); omega)))))⟩
                    case measure => simp [intOf]; omega
                  · clear hd
                    go_upto_region 26 with (fail)
                    refine wp_region_grow (by kernel_rfl) (by kernel_rfl) (by first | (simp only [List.append]; rfl) | rfl) ?_
                    (repeat (go_big_quiet_step (fail)))
                    refine wpQuiet_nil ?_
                    intro wq hq
                    obtain ⟨d, rfl⟩ := hq
                    go_wp2
                    go_roundw
                    case rel => exact ⟨b + 1, by omega, by omega, by go_num, (by repeat (first | (with_reducible exact Ext.refl _) | (with_reducible refine Ext.undrew ?_) | (with_reducible refine Ext.grow ?_ _) | (with_reducible refine Ext.drew ?_) | (with_reducible refine Ext.drewN ?_ _) | (with_reducible refine Ext.alloc ?_ _) | (with_reducible assumption) | ((with_reducible refine Ext.setCell ?_ ?_ _); rotate_left; (first | exact Nat.le_refl _ | ((try dsimp only); (try simp only [World.size_alloc, grow_size, World.size_setCell]); omega)))))⟩
                    case measure => simp [intOf]; omega
                · obtain rfl : b = N := by omega
                  have hb1 : ¬ (b : Int) < (b : Int) := by omega
                  obtain ⟨g5, o5, rfl, hg5, p0, p1⟩ := (HR9.out.ext hxb).two haL
                  have hbd := HBD.out _ (List.getElem_mem haL)
                  generalize hx1 : (L[a]).lo = x1 at *
                  generalize hx2 : (L[a]).hi = x2 at *
                  have k1 : ¬ x1 < 32 := by omega
                  have k2 : ¬ 32 + 16 * a0 < x2 := by have := HTO.out; omega
                  have k3 : ¬ x2 ≤ x1 := by omega
                  clear hx1 hx2 hbd
                  go_upto_region 28 with (fail)
                  refine wp_region_grow (by kernel_rfl) (by kernel_rfl) (by first | (simp only [List.append]; rfl) | rfl) ?_
                  (repeat (go_big_quiet_step (fail)))
                  refine wpQuiet_nil ?_
                  intro wq hq
                  obtain ⟨d, rfl⟩ := hq
                  go_wp2
                  go_roundw
                  case rel => exact ⟨a + 1, by omega, by go_num, (by repeat (first | (with_reducible exact Ext.refl _) | (with_reducible refine Ext.undrew ?_) | (with_reducible refine Ext.grow ?_ _) | (with_reducible refine Ext.drew ?_) | (with_reducible refine Ext.drewN ?_ _) | (with_reducible refine Ext.alloc ?_ _) | (with_reducible assumption) | ((with_reducible refine Ext.setCell ?_ ?_ _); rotate_left; (first | exact Nat.le_refl _ | ((try dsimp only); (try simp only [World.size_alloc, grow_size, World.size_setCell]); omega)))))⟩
                  case measure => simp [intOf]; omega
            · obtain rfl : a = N := by omega
              have ha1 : ¬ (a : Int) < (a : Int) := by omega
              have HBa := hid (HB9.out.ext hxa)
              have hsum := HIX.out.sum
              have HSM : Hid (∀ j, 0 ≤ sumP ll ∧ 0 ≤ sumP (mm.take j) ∧ sumP ll + sumP (mm.take j) ≤ tq - 32) := hid (fun j => sumP_le HIX.out HGD.out j)
              obtain ⟨S, hS⟩ : ∃ S, sumP ll = S := ⟨_, rfl⟩
              rw [hS] at HSM hsum ⊢
              have HSU := hid hsum
              clear hS hsum HR9 HB9 hxa HDS HBD HLN
              go_wp2
              go_loopw [12, 16] (fun s i wr => ∃ j : Nat, j ≤ mm.length ∧ i = .int .i64 j ∧ s = .int .i64 (S + sumP (mm.take j)) ∧ Hid (FH w wr q base 32 tq vv ll bh (.slice Ah mm.length ch) mm)) (fun _ i _ => mm.length - (intOf i).toNat)
              case atStart => exact ⟨0, Nat.zero_le _, rfl, by simp [sumP], HBa⟩
              case round =>
                clear HBa
                obtain ⟨j, hj, rfl, rfl, HBa⟩ := hrel
                by_cases hjl : j < mm.length
                · have hj1 : (j : Int) < (mm.length : Int) := by omega
                  have hj2 : (0 : Int) ≤ (j : Int) := by omega
                  obtain ⟨g5, o5, rfl, hg5, p0, p1⟩ := (HBa.out.hh.rdP rfl).two hjl
                  have hb := (HIX.out.held.ok _ (List.getElem_mem hjl)).2.2
                  have hsn : sumP (mm.take (j + 1)) = sumP (mm.take j) + (mm[j]).hi - (mm[j]).lo := by
                    rw [List.take_succ_eq_append_getElem hjl, sumP_one]; unfold Pr.len; omega
                  have hsb := HSM.out j
                  generalize hx1 : (mm[j]).lo = x1 at *
                  generalize hx2 : (mm[j]).hi = x2 at *
                  have HSE : Hid (S + sumP (mm.take (j + 1)) = S + sumP (mm.take j) + x2 - x1) := hid (by omega)
                  obtain ⟨T, hT⟩ : ∃ T, S + sumP (mm.take j) = T := ⟨_, rfl⟩
                  rw [hT] at HSE ⊢
                  have ht0 : 0 ≤ T := by omega
                  have ht1 : T ≤ 10000 := by omega
                  obtain ⟨hb0, hb1, hb2⟩ := hb
                  have ht2 : x2 ≤ 5000 := by omega
                  have ht3 : 0 ≤ x1 := by omega
                  clear hx1 hx2 hsb hsn hT
                  go_upto_region 33 with (fail)
                  refine wp_region_grow (by kernel_rfl) (by kernel_rfl) (by first | (simp only [List.append]; rfl) | rfl) ?_
                  (repeat (go_big_quiet_step (fail)))
                  refine wpQuiet_nil ?_
                  intro wq hq
                  obtain ⟨d, rfl⟩ := hq
                  have HBq := hid (HBa.out.ext (Ext.grow (Ext.refl _) d))
                  go_wp2
                  go_roundw
                  case rel => exact ⟨j + 1, by omega, by go_num, by rw [HSE.out], HBq⟩
                  case measure => simp [intOf]; omega
                · obtain rfl : j = mm.length := by omega
                  have hj1 : ¬ (mm.length : Int) < (mm.length : Int) := by omega
                  rw [List.take_length]
                  have hse : S + sumP mm = 16 * a0 := by have := HSU.out; have := HTO.out; omega
                  rw [hse]
                  go_wp2
                  go_roundw
                  case rel => exact ⟨k + 1, _, _, _, hk0, by go_num, by omega, HBa, HIX⟩
                  case measure => simp [intOf]; omega
      · obtain rfl : k = zs1.length := by omega
        have hk1 : ¬ (zs1.length : Int) < (zs1.length : Int) := by omega
        go_wp2
        go_ret
        exact ⟨rfl, HB.out.ex⟩
  · have hli : (200 : Int) < (zs1.length : Int) := by omega
    go_enter Try.func4, Try.ntmps4
    go_upto_region 2 with (go_at_call 8; refine Calls.mono (head_ _) ?_; rintro e wh ⟨rfl, hxh⟩)
    go_upto_region 3 with (rw [HTO.out]; (go_at_call 9; with_reducible refine (yNew2 32 tq _ (by decide) hto1 hto2 (by decide) hto3).mono ?_; rintro e w1 ⟨q, v1, l1, rfl, HF1, HL1⟩))
    go_wp2
    go_ret
    exact ⟨rfl, hxh.trans HF1.out.1.2.1⟩
end extentApart

end Go.Proofs.Ytkjakaoimbmcjaa
