/- The walk of ExtentPlays. -/
import Derived.Test.YtkjakaoimbmcjaaExtAE
import Derived.Deep.DeepCutAuto
namespace Go.Proofs.Ytkjakaoimbmcjaa
set_option linter.unusedSimpArgs false
set_option linter.unusedVariables false
open Go.RowKit

open Go.Deep Go.RowKit
namespace extentPlays
set_option maxRecDepth 100000 in
set_option maxHeartbeats 8000000 in
theorem walk (a0 : Int) (a1 : Int) (A2 : Option Addr) (cap2 : Nat) (zs2 : List EOp) (w : World) (w0 : (Lit.int .i64 a0).wf = true) (w1 : (Lit.int .i64 a1).wf = true) (wl2 : zs2.length ≤ maxLen) (hs2 : SlAtN w A2 3 (zs2.map EOp.cells)) (wz2 : ∀ z ∈ zs2, z.good) :
    Calls Try.prog 3 #[.int .i64 a0, .int .i64 a1, .slice A2 zs2.length cap2] w fun e w' => e = .returned (.bool true) ∧ Ext w w' := by
  unfold maxLen at wl2
  have HSL := hid hs2
  clear hs2 wz2 w0 w1
  by_cases hlen : ¬ a1 ≤ 20000 ∨ ¬ zs2.length ≤ 200
  · by_cases ht : 20000 < a1
    · go_enter Try.func3, Try.ntmps3
      go_wp2_with (go_at_call 8; refine Calls.mono (head_ _) ?_; rintro e wh ⟨rfl, hxh⟩)
      go_ret
      exact ⟨rfl, hxh⟩
    · have hli : (200 : Int) < (zs2.length : Int) := by omega
      go_enter Try.func3, Try.ntmps3
      go_wp2_with (go_at_call 8; refine Calls.mono (head_ _) ?_; rintro e wh ⟨rfl, hxh⟩)
      go_ret
      exact ⟨rfl, hxh⟩
  · have hto9 : a1 ≤ 20000 := by omega
    have hlen2 : zs2.length ≤ 200 := by omega
    have hli : ¬ (200 : Int) < (zs2.length : Int) := by omega
    have hti : ¬ (20000 : Int) < a1 := by omega
    clear hlen
    by_cases hc : g16 a0 = true ∧ g16 a1 = true ∧ 0 ≤ a0 ∧ a0 ≤ a1
    · obtain ⟨h1, h2, h3, h4⟩ := hc
      have H1 := hid h1
      have H2 := hid h2
      have HNN := hid (g16_mult h2 h1 h4)
      obtain ⟨nn, hnne⟩ : ∃ x, ((a1 - a0) / 16).toNat = x := ⟨_, rfl⟩
      rw [hnne] at HNN
      clear hnne h1 h2
      go_enter Try.func3, Try.ntmps3
      go_upto_region 4 with (go_at_call 8; refine Calls.mono (head_ _) ?_; rintro e wh ⟨rfl, hxh⟩)
      have h1 := H1.out
      have h2 := H2.out
      go_upto_region 5 with (go_at_call 9; refine (yNew3 a0 a1 _ h3 h4 (by omega) h1 h2).mono ?_; rintro e w1 ⟨f, rfl, v1, l1, HF1, HL1⟩)
      go_upto_region 6 with (go_at_call 10; refine (rxnew a0 a1 nn _ h1 h2 h3 hto9 HNN.out).mono ?_; rintro e w2 ⟨p, rfl, q, HR2, HX2, hp2, hq2⟩)
      clear h1 h2
      have HB0 : Hid (EP w w2 f wh.heap.size a0 a1 v1 l1 p q nn (fun i => decide (i < nn))) := hid (by
        have E1 := HF1.out.start hxh hxh.size
        refine ⟨E1.ext HX2.out, HR2.out, HNN.out, ?_, ?_, ?_, ?_, ?_, ?_⟩
        · have := HF1.out.qlt; omega
        · have := HF1.out.qlt; omega
        · intro e; have := (E1.own p e).2; omega
        · intro e; have := (E1.own q e).2; omega
        · have := E1.1.2.1.size; omega
        · have := E1.1.2.1.size; omega)
      have HBI0 : Hid (BI a0 (fun i => decide (i < nn)) l1) := hid (fun y => by
        rw [HL1.out.2 y]
        have := HNN.out
        simp only [decide_eq_true_eq]
        omega)
      have H60 := hid HL1.out.1
      clear HF1 HR2 HX2 hp2 hq2 HL1 HNN
      generalize wh.heap.size = base at HB0
      clear hxh
      go_wp2
      obtain ⟨n, hn⟩ : ∃ x, nn = x := ⟨_, rfl⟩
      rw [hn] at HB0 HBI0
      clear hn
      go_loopw [10] (fun i wr => ∃ (k : Nat) (v : Value) (l : List Pr) (P : Nat → Bool), k ≤ zs2.length ∧ i = .int .i64 k ∧ Hid (EP w wr f base a0 a1 v l p q n P) ∧ Hid (BI a0 P l) ∧ Hid (G16 l)) (fun i _ => zs2.length - (intOf i).toNat)
      case atStart => exact ⟨0, _, _, _, Nat.zero_le _, rfl, HB0, HBI0, H60⟩
      case round =>
        clear HB0 HBI0 H60
        obtain ⟨k, v, l, P, hk, rfl, HB, HBI, H6⟩ := hrel
        by_cases hlt : k < zs2.length
        · obtain ⟨z, hz⟩ : ∃ z, zs2[k] = z := ⟨_, rfl⟩
          obtain ⟨b0, o, rfl, hb0, hop⟩ := EOp.facts HSL.out hlt z hz
          have HOP := hid (rg_ext hop hb0 HB.out.ex)
          have hb1 : b0 < wr.heap.size := Nat.lt_of_lt_of_le hb0 HB.out.ex.size
          have hcw : wr.cell? ⟨b0, o + k * 3, none⟩ = some (.int .i64 z.what) := HOP.out 0 _ rfl
          have hcn : wr.cell? ⟨b0, o + k * 3 + 2, none⟩ = some (.int .i64 z.n) := HOP.out 2 _ rfl
          have hcn0 : w.cell? ⟨b0, o + k * 3 + 2, none⟩ = some (.int .i64 z.n) := hop 2 _ rfl
          have hnb : ¬ nwr w b0 := Nat.not_le_of_lt hb0
          have HG := hid HB.out.e.2.1
          clear hop hz
          have hk1 : (k : Int) < (zs2.length : Int) := by omega
          have hk0 : k + 1 ≤ zs2.length := by omega
          have hk3 : (0 : Int) ≤ (k : Int) := by omega
          go_upto_if 57 with (fail)
          go_cut [11, 12] (fun s11 s12 wx => ∃ (b : Bool) (v : Value) (l : List Pr) (P : Nat → Bool), s11 = .bool b ∧ s12 = .bool b ∧ Hid (EP w wx f base a0 a1 v l p q n P) ∧ Hid (BI a0 P l) ∧ Hid (G16 l))
          case first =>
            by_cases hw : z.what < 3
            · skip
              obtain ⟨⟨⟨xa, xb⟩, l2⟩, ht⟩ : ∃ t, takeF z.n l = t := ⟨_, rfl⟩
              go_upto_region 15 with (go_at_call 11; refine (plTake w f base a0 a1 _ _ p q n _ _ HB.out z.n xa xb l2 ht).mono ?_; rintro e w3 ⟨v3, rfl, HB3, HO3⟩)
              have hcn3 : w3.cell? ⟨b0, o + k * 3 + 2, none⟩ = some (.int .i64 z.n) := (HB3.out.ex.cells b0 _ hb0).trans hcn0
              go_upto_region 16 with (go_at_call 12; refine (prTake w f base a0 a1 _ _ p q n _ _ HB3.out l HBI.out HG.out H6.out z.n xa xb l2 ht).mono ?_; rintro e w4 ⟨P4, rfl, HB4, HBI4⟩)
              cases xb with
              | false =>
                obtain rfl : l2 = l := takeF_same ht
                go_wp2
                go_meet
                exact ⟨false, _, _, _, rfl, rfl, HB4, HBI4, H6⟩
              | true =>
                have H62 : Hid (G16 l2) := hid (by
                  have HT := takeF_yesT HG.out H6.out (n := z.n) (by rw [ht])
                  rw [ht] at HT
                  exact HT.2.2.2.2.2.2.2.1)
                go_wp2
                go_meet
                exact ⟨true, _, _, _, rfl, by simp, HB4, HBI4, H62⟩
            · by_cases hc : giveC a0 a1 z.at_ z.n l
              · skip
                have H6Y : Hid (G16 (giveL l (kOf z.at_ l) ⟨z.at_, z.at_ + z.n⟩)) := hid (H6.out.give _ _ (by
                  have hg := hc.1
                  simp only [List.all_cons, List.all_nil, Bool.and_true, Bool.and_eq_true] at hg
                  exact ⟨hg.1, g16_add hg.1 hg.2⟩))
                go_upto_region 18 with (fail)
                refine wp_region_only (S := nwr w) (.rd 0 (.rd 1 (.rd 2 (.rd 3 (.rd 4 (.rd 5 (.rd 6 (.rd 7 (.rd 8 (.rd 9 (.rd 10 (.ac 11 (.rd 12 .done))))))))))))) (by kernel_rfl) (by kernel_rfl) (fun _ _ d _ _ h => by cases d <;> exact h) (by simp only [Ord.map, nthOp, List.append]; rfl) ?_
                intro d0
                have hx0 : Ext wr (Go.Proofs.Ytkjakaoimbmcjaa.grow wr d0) := Ext.grow (Ext.refl _) d0
                have HB2 := hid (HB.out.ext hx0)
                have HO2 := hid (rg_ext HOP.out hb1 hx0)
                have hb2 := Nat.lt_of_lt_of_le hb1 hx0.size
                generalize Go.Proofs.Ytkjakaoimbmcjaa.grow wr d0 = W2 at HB2 HO2 hb2 ⊢
                clear HB hx0 HOP
                repeat' (first | (refine only_read (by rfl) (fun K hK => ?_); (refine quiet_index 22 _ _ rfl ⟨b0, o, none⟩ zs2.length cap2 k 3 rfl rfl hlt (by kernel_rfl) (fun w => by kernel_rfl) ?_; rw [Addr.add_lit]); refine hK _ ?_; clear hK K; simp only [Act.put, List.setIfInBounds_toArray, List.set_cons_zero, List.set_cons_succ]) | (refine only_read (by rfl) (fun K hK => ?_); refine quiet_runD 89 rfl (.pointer (some ⟨b0, o + k * 3 + 1, none⟩)) (fun w => by kernel_rfl) ?_; refine hK _ ?_; clear hK K; simp only [Act.put, List.setIfInBounds_toArray, List.set_cons_zero, List.set_cons_succ]) | (refine only_read (by rfl) (fun K hK => ?_); refine quiet_runD 94 rfl (.pointer (some ⟨b0, o + k * 3 + 2, none⟩)) (fun w => by kernel_rfl) ?_; refine hK _ ?_; clear hK K; simp only [Act.put, List.setIfInBounds_toArray, List.set_cons_zero, List.set_cons_succ]) | (refine only_read (by rfl) (fun K hK => ?_); refine quiet_load1 3 _ rfl b0 (o + k * 3 + 1) rfl (.int .i64 z.at_) _ (fun w' hw' => rg_only HO2.out hb2 hw' hnb 1 _ rfl) Try.underlying3 rfl ?_; refine hK _ ?_; clear hK K; simp only [Act.put, List.setIfInBounds_toArray, List.set_cons_zero, List.set_cons_succ]) | (refine only_read (by rfl) (fun K hK => ?_); refine quiet_load1 3 _ rfl b0 (o + k * 3 + 2) rfl (.int .i64 z.n) _ (fun w' hw' => rg_only HO2.out hb2 hw' hnb 2 _ rfl) Try.underlying3 rfl ?_; refine hK _ ?_; clear hK K; simp only [Act.put, List.setIfInBounds_toArray, List.set_cons_zero, List.set_cons_succ]) | (refine only_read (by rfl) (fun K hK => ?_); go_big_quiet_op; refine hK _ ?_; clear hK K))
                refine only_act (by rfl) (fun K hK => ?_)
                go_wp2_with (go_at_call 13; refine (plGive w f base a0 a1 _ _ p q n _ _ HB2.out z.at_ z.n hc).mono ?_; rintro e w3 ⟨v3, rfl, HB3, HO3⟩)
                refine ⟨_, Only.refl _ _, HO3.out, ?_⟩
                repeat' (first | (refine only_read (by rfl) (fun K hK => ?_); go_big_quiet_op; refine hK _ ?_; clear hK K))
                refine only_nil ?_
                have HO2' := hid (rg_only HO2.out hb2 HO3.out hnb)
                have hb3 := Nat.lt_of_lt_of_le hb2 HO3.out.size
                clear HO2 HO3 HB2
                go_upto_region 19 with (fail)
                refine wp_region_only (S := nwr w) (.rd 0 (.rd 1 (.rd 2 (.rd 3 (.rd 4 (.rd 5 (.rd 6 (.rd 7 (.rd 8 (.rd 9 (.rd 10 (.ac 11 (.rd 12 .done))))))))))))) (by kernel_rfl) (by kernel_rfl) (fun _ _ d _ _ h => by cases d <;> exact h) (by simp only [Ord.map, nthOp, List.append]; rfl) ?_
                intro d0
                have hx0 : Ext w3 (Go.Proofs.Ytkjakaoimbmcjaa.grow w3 d0) := Ext.grow (Ext.refl _) d0
                have HB4 := hid (HB3.out.ext hx0)
                have HO4 := hid (rg_ext HO2'.out hb3 hx0)
                have hb4 := Nat.lt_of_lt_of_le hb3 hx0.size
                generalize Go.Proofs.Ytkjakaoimbmcjaa.grow w3 d0 = W4 at HB4 HO4 hb4 ⊢
                clear HB3 hx0 HO2'
                repeat' (first | (refine only_read (by rfl) (fun K hK => ?_); (refine quiet_index 22 _ _ rfl ⟨b0, o, none⟩ zs2.length cap2 k 3 rfl rfl hlt (by kernel_rfl) (fun w => by kernel_rfl) ?_; rw [Addr.add_lit]); refine hK _ ?_; clear hK K; simp only [Act.put, List.setIfInBounds_toArray, List.set_cons_zero, List.set_cons_succ]) | (refine only_read (by rfl) (fun K hK => ?_); refine quiet_runD 101 rfl (.pointer (some ⟨b0, o + k * 3 + 1, none⟩)) (fun w => by kernel_rfl) ?_; refine hK _ ?_; clear hK K; simp only [Act.put, List.setIfInBounds_toArray, List.set_cons_zero, List.set_cons_succ]) | (refine only_read (by rfl) (fun K hK => ?_); refine quiet_runD 106 rfl (.pointer (some ⟨b0, o + k * 3 + 2, none⟩)) (fun w => by kernel_rfl) ?_; refine hK _ ?_; clear hK K; simp only [Act.put, List.setIfInBounds_toArray, List.set_cons_zero, List.set_cons_succ]) | (refine only_read (by rfl) (fun K hK => ?_); refine quiet_load1 3 _ rfl b0 (o + k * 3 + 1) rfl (.int .i64 z.at_) _ (fun w' hw' => rg_only HO4.out hb4 hw' hnb 1 _ rfl) Try.underlying3 rfl ?_; refine hK _ ?_; clear hK K; simp only [Act.put, List.setIfInBounds_toArray, List.set_cons_zero, List.set_cons_succ]) | (refine only_read (by rfl) (fun K hK => ?_); refine quiet_load1 3 _ rfl b0 (o + k * 3 + 2) rfl (.int .i64 z.n) _ (fun w' hw' => rg_only HO4.out hb4 hw' hnb 2 _ rfl) Try.underlying3 rfl ?_; refine hK _ ?_; clear hK K; simp only [Act.put, List.setIfInBounds_toArray, List.set_cons_zero, List.set_cons_succ]) | (refine only_read (by rfl) (fun K hK => ?_); go_big_quiet_op; refine hK _ ?_; clear hK K))
                refine only_act (by rfl) (fun K hK => ?_)
                go_wp2_with (go_at_call 14; refine (prGive w f base a0 a1 _ _ p q n _ _ HB4.out l HBI.out HG.out z.at_ z.n hc).mono ?_; rintro e w5 ⟨P5, rfl, HB5, HBI5, HO5⟩)
                refine ⟨_, Only.refl _ _, HO5.out, ?_⟩
                repeat' (first | (refine only_read (by rfl) (fun K hK => ?_); go_big_quiet_op; refine hK _ ?_; clear hK K))
                refine only_nil ?_
                clear HO4 HO5 HB4
                go_wp2
                go_meet
                exact ⟨true, _, _, _, rfl, rfl, HB5, HBI5, H6Y⟩
              · skip
                go_upto_region 18 with (fail)
                refine wp_region_only (S := nwr w) (.rd 0 (.rd 1 (.rd 2 (.rd 3 (.rd 4 (.rd 5 (.rd 6 (.rd 7 (.rd 8 (.rd 9 (.rd 10 (.ac 11 (.rd 12 .done))))))))))))) (by kernel_rfl) (by kernel_rfl) (fun _ _ d _ _ h => by cases d <;> exact h) (by simp only [Ord.map, nthOp, List.append]; rfl) ?_
                intro d0
                have hx0 : Ext wr (Go.Proofs.Ytkjakaoimbmcjaa.grow wr d0) := Ext.grow (Ext.refl _) d0
                have HB2 := hid (HB.out.ext hx0)
                have HO2 := hid (rg_ext HOP.out hb1 hx0)
                have hb2 := Nat.lt_of_lt_of_le hb1 hx0.size
                generalize Go.Proofs.Ytkjakaoimbmcjaa.grow wr d0 = W2 at HB2 HO2 hb2 ⊢
                clear HB hx0 HOP
                repeat' (first | (refine only_read (by rfl) (fun K hK => ?_); (refine quiet_index 22 _ _ rfl ⟨b0, o, none⟩ zs2.length cap2 k 3 rfl rfl hlt (by kernel_rfl) (fun w => by kernel_rfl) ?_; rw [Addr.add_lit]); refine hK _ ?_; clear hK K; simp only [Act.put, List.setIfInBounds_toArray, List.set_cons_zero, List.set_cons_succ]) | (refine only_read (by rfl) (fun K hK => ?_); refine quiet_runD 89 rfl (.pointer (some ⟨b0, o + k * 3 + 1, none⟩)) (fun w => by kernel_rfl) ?_; refine hK _ ?_; clear hK K; simp only [Act.put, List.setIfInBounds_toArray, List.set_cons_zero, List.set_cons_succ]) | (refine only_read (by rfl) (fun K hK => ?_); refine quiet_runD 94 rfl (.pointer (some ⟨b0, o + k * 3 + 2, none⟩)) (fun w => by kernel_rfl) ?_; refine hK _ ?_; clear hK K; simp only [Act.put, List.setIfInBounds_toArray, List.set_cons_zero, List.set_cons_succ]) | (refine only_read (by rfl) (fun K hK => ?_); refine quiet_load1 3 _ rfl b0 (o + k * 3 + 1) rfl (.int .i64 z.at_) _ (fun w' hw' => rg_only HO2.out hb2 hw' hnb 1 _ rfl) Try.underlying3 rfl ?_; refine hK _ ?_; clear hK K; simp only [Act.put, List.setIfInBounds_toArray, List.set_cons_zero, List.set_cons_succ]) | (refine only_read (by rfl) (fun K hK => ?_); refine quiet_load1 3 _ rfl b0 (o + k * 3 + 2) rfl (.int .i64 z.n) _ (fun w' hw' => rg_only HO2.out hb2 hw' hnb 2 _ rfl) Try.underlying3 rfl ?_; refine hK _ ?_; clear hK K; simp only [Act.put, List.setIfInBounds_toArray, List.set_cons_zero, List.set_cons_succ]) | (refine only_read (by rfl) (fun K hK => ?_); go_big_quiet_op; refine hK _ ?_; clear hK K))
                refine only_act (by rfl) (fun K hK => ?_)
                go_wp2_with (go_at_call 13; refine (plGiveNo w f base a0 a1 _ _ p q n _ _ HB2.out z.at_ z.n hc).mono ?_; rintro e w3 ⟨v3, rfl, HB3, HO3⟩)
                refine ⟨_, Only.refl _ _, HO3.out, ?_⟩
                repeat' (first | (refine only_read (by rfl) (fun K hK => ?_); go_big_quiet_op; refine hK _ ?_; clear hK K))
                refine only_nil ?_
                have HO2' := hid (rg_only HO2.out hb2 HO3.out hnb)
                have hb3 := Nat.lt_of_lt_of_le hb2 HO3.out.size
                clear HO2 HO3 HB2
                go_upto_region 19 with (fail)
                refine wp_region_only (S := nwr w) (.rd 0 (.rd 1 (.rd 2 (.rd 3 (.rd 4 (.rd 5 (.rd 6 (.rd 7 (.rd 8 (.rd 9 (.rd 10 (.ac 11 (.rd 12 .done))))))))))))) (by kernel_rfl) (by kernel_rfl) (fun _ _ d _ _ h => by cases d <;> exact h) (by simp only [Ord.map, nthOp, List.append]; rfl) ?_
                intro d0
                have hx0 : Ext w3 (Go.Proofs.Ytkjakaoimbmcjaa.grow w3 d0) := Ext.grow (Ext.refl _) d0
                have HB4 := hid (HB3.out.ext hx0)
                have HO4 := hid (rg_ext HO2'.out hb3 hx0)
                have hb4 := Nat.lt_of_lt_of_le hb3 hx0.size
                generalize Go.Proofs.Ytkjakaoimbmcjaa.grow w3 d0 = W4 at HB4 HO4 hb4 ⊢
                clear HB3 hx0 HO2'
                repeat' (first | (refine only_read (by rfl) (fun K hK => ?_); (refine quiet_index 22 _ _ rfl ⟨b0, o, none⟩ zs2.length cap2 k 3 rfl rfl hlt (by kernel_rfl) (fun w => by kernel_rfl) ?_; rw [Addr.add_lit]); refine hK _ ?_; clear hK K; simp only [Act.put, List.setIfInBounds_toArray, List.set_cons_zero, List.set_cons_succ]) | (refine only_read (by rfl) (fun K hK => ?_); refine quiet_runD 101 rfl (.pointer (some ⟨b0, o + k * 3 + 1, none⟩)) (fun w => by kernel_rfl) ?_; refine hK _ ?_; clear hK K; simp only [Act.put, List.setIfInBounds_toArray, List.set_cons_zero, List.set_cons_succ]) | (refine only_read (by rfl) (fun K hK => ?_); refine quiet_runD 106 rfl (.pointer (some ⟨b0, o + k * 3 + 2, none⟩)) (fun w => by kernel_rfl) ?_; refine hK _ ?_; clear hK K; simp only [Act.put, List.setIfInBounds_toArray, List.set_cons_zero, List.set_cons_succ]) | (refine only_read (by rfl) (fun K hK => ?_); refine quiet_load1 3 _ rfl b0 (o + k * 3 + 1) rfl (.int .i64 z.at_) _ (fun w' hw' => rg_only HO4.out hb4 hw' hnb 1 _ rfl) Try.underlying3 rfl ?_; refine hK _ ?_; clear hK K; simp only [Act.put, List.setIfInBounds_toArray, List.set_cons_zero, List.set_cons_succ]) | (refine only_read (by rfl) (fun K hK => ?_); refine quiet_load1 3 _ rfl b0 (o + k * 3 + 2) rfl (.int .i64 z.n) _ (fun w' hw' => rg_only HO4.out hb4 hw' hnb 2 _ rfl) Try.underlying3 rfl ?_; refine hK _ ?_; clear hK K; simp only [Act.put, List.setIfInBounds_toArray, List.set_cons_zero, List.set_cons_succ]) | (refine only_read (by rfl) (fun K hK => ?_); go_big_quiet_op; refine hK _ ?_; clear hK K))
                refine only_act (by rfl) (fun K hK => ?_)
                go_wp2_with (go_at_call 14; refine (prGiveNo w f base a0 a1 _ _ p q n _ _ HB4.out l HBI.out HG.out z.at_ z.n hc).mono ?_; rintro e w5 ⟨rfl, HB5, HO5⟩)
                refine ⟨_, Only.refl _ _, HO5.out, ?_⟩
                repeat' (first | (refine only_read (by rfl) (fun K hK => ?_); go_big_quiet_op; refine hK _ ?_; clear hK K))
                refine only_nil ?_
                clear HO4 HO5 HB4
                go_wp2
                go_meet
                exact ⟨false, _, _, _, rfl, rfl, HB5, HBI, H6⟩
          case rest =>
            clear HB HBI H6 HG hcw hcn hcn0 HOP
            obtain ⟨b, v, l, P, rfl, rfl, HB, HBI, H6⟩ := hcut
            have hlf6 : l.length ≤ 1000000 := by
              rcases good_len l a0 HB.out.e.2.1 with c | c
              · rw [c]; simp
              · omega
            cases b with
            | false =>
              go_wp2_with (first | (go_at_call 15; refine (plAll w f base a0 a1 _ _ p q n _ _ HB.out).mono ?_; rintro e w6 ⟨rfl, HB6⟩) | (go_at_call 16; refine (prAll w f base a0 a1 _ _ p q n _ _ HB6.out HBI.out).mono ?_; rintro e w7 ⟨rfl, HB7⟩) | (go_at_call 17; refine (plMost w f base a0 a1 _ _ p q n _ _ HB7.out).mono ?_; rintro e w8 ⟨rfl, HB8⟩) | (go_at_call 18; refine (prMost w f base a0 a1 _ _ p q n _ _ HB8.out HBI.out).mono ?_; rintro e w9 ⟨rfl, HB9⟩) | (go_at_call 20; refine (plRuns w f base a0 a1 _ _ p q n _ _ HB9.out hlf6).mono ?_; rintro e w10 ⟨A5, c5, rfl, HR5, HB10⟩) | (go_at_call 21; refine (prRuns w f base a0 a1 _ _ p q n _ _ HB10.out HBI.out).mono ?_; rintro e w11 ⟨A6, c6, rfl, HR6, HB11, HX11⟩) | (go_at_call 19; refine (esame_ A5 A6 l.length c5 c6 l _ (HR5.out.ext HX11.out) HR6.out rfl (by omega)).mono ?_; rintro e w12 ⟨rfl, hx12⟩; have HB12 := hid (HB11.out.ext hx12)))
              go_roundw
              case rel => exact ⟨k + 1, _, _, _, hk0, by go_num, HB12, HBI, H6⟩
              case measure => simp [intOf]; omega
            | true =>
              go_wp2_with (first | (go_at_call 15; refine (plAll w f base a0 a1 _ _ p q n _ _ HB.out).mono ?_; rintro e w6 ⟨rfl, HB6⟩) | (go_at_call 16; refine (prAll w f base a0 a1 _ _ p q n _ _ HB6.out HBI.out).mono ?_; rintro e w7 ⟨rfl, HB7⟩) | (go_at_call 17; refine (plMost w f base a0 a1 _ _ p q n _ _ HB7.out).mono ?_; rintro e w8 ⟨rfl, HB8⟩) | (go_at_call 18; refine (prMost w f base a0 a1 _ _ p q n _ _ HB8.out HBI.out).mono ?_; rintro e w9 ⟨rfl, HB9⟩) | (go_at_call 20; refine (plRuns w f base a0 a1 _ _ p q n _ _ HB9.out hlf6).mono ?_; rintro e w10 ⟨A5, c5, rfl, HR5, HB10⟩) | (go_at_call 21; refine (prRuns w f base a0 a1 _ _ p q n _ _ HB10.out HBI.out).mono ?_; rintro e w11 ⟨A6, c6, rfl, HR6, HB11, HX11⟩) | (go_at_call 19; refine (esame_ A5 A6 l.length c5 c6 l _ (HR5.out.ext HX11.out) HR6.out rfl (by omega)).mono ?_; rintro e w12 ⟨rfl, hx12⟩; have HB12 := hid (HB11.out.ext hx12)))
              go_roundw
              case rel => exact ⟨k + 1, _, _, _, hk0, by go_num, HB12, HBI, H6⟩
              case measure => simp [intOf]; omega
        · obtain rfl : k = zs2.length := by omega
          have hk1 : ¬ (zs2.length : Int) < (zs2.length : Int) := by omega
          go_wp2
          go_ret
          exact ⟨rfl, HB.out.ex⟩
    · go_enter Try.func3, Try.ntmps3
      go_upto_region 4 with (go_at_call 8; refine Calls.mono (head_ _) ?_; rintro e wh ⟨rfl, hxh⟩)
      go_upto_region 5 with (go_at_call 9; refine (yNo a0 a1 _ (by omega) hc).mono ?_; rintro e w1 ⟨rfl, hx1⟩)
      go_upto_region 6 with (go_at_call 10; refine (rxno a0 a1 _ hc).mono ?_; rintro e w2 ⟨rfl, rfl⟩)
      go_wp2
      go_ret
      exact ⟨rfl, hxh.trans hx1⟩
end extentPlays

end Go.Proofs.Ytkjakaoimbmcjaa
