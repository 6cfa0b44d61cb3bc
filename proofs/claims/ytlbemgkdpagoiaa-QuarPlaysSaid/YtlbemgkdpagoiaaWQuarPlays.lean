/- The walk of QuarPlays. -/
import Derived.Test.YtlbemgkdpagoiaaQuaR
namespace Go.Proofs.Ytlbemgkdpagoiaa
set_option linter.unusedSimpArgs false
set_option linter.unusedVariables false
open Go.RowKit

open Go.Deep Go.RowKit
namespace quarPlays
set_option maxRecDepth 100000 in
set_option maxHeartbeats 8000000 in
theorem walk (a0 : Int) (A1 : Option Addr) (cap1 : Nat) (zs1 : List QOp) (w : World) (w0 : (Lit.int .i64 a0).wf = true) (wl1 : zs1.length ≤ maxLen) (hs1 : SlAtN w A1 5 (zs1.map QOp.cells)) (wz1 : ∀ z ∈ zs1, z.good) :
    Calls Try.prog 3 #[.int .i64 a0, .slice A1 zs1.length cap1] w fun e w' => e = .returned (.bool true) ∧ Ext w w' := by
  unfold maxLen at wl1
  clear w0 wz1
  have HSL := hid hs1
  clear hs1
  by_cases hfull : 1 ≤ a0 ∧ a0 ≤ 16777216
  · obtain ⟨h1, h2⟩ := hfull
    by_cases hlen : zs1.length ≤ 300
    · have hli : ¬ (300 : Int) < (zs1.length : Int) := by omega
      go_enter Try.func3, Try.ntmps3
      go_upto_region 2 with (go_at_call 8; refine Calls.mono (head_ _) ?_; rintro e wh ⟨rfl, hxh⟩)
      go_upto_region 3 with (go_at_call 9; refine (qnew_ a0 _ h1 h2).mono ?_; rintro e w1 ⟨q, rfl, hwq, hxn, hq1⟩)
      go_upto_region 4 with (go_at_call 10; refine (rqnew_ a0 _ h1 h2).mono ?_; rintro e w2 ⟨r, rfl, hwr, hxr, hr2⟩)
      have HB0 : Hid (QR w w2 a0 q wh.heap.size (.slice none 0 0) [] r w1.heap.size (.slice none 0 0) []) := hid ⟨hq1.ext hxr, hr2, (by have := hq1.1; omega), (fun h => by cases h), (fun h => by cases h), (fun g h => by cases h), (hxh.trans hxn).trans hxr, hxh.size, (by have := hxh.size; have := hxn.size; omega)⟩
      clear hxh hxn hq1 hxr hr2 hwq hwr
      generalize wh.heap.size = base at HB0
      generalize w1.heap.size = rb at HB0
      go_wp2
      go_loopw [8] (fun i wr => ∃ (k : Nat) (l : List Hd) (v vr : Value), k ≤ zs1.length ∧ i = .int .i64 k ∧ l.length ≤ k ∧ Hid (goodL l) ∧ Hid (QR w wr a0 q base v l r rb vr l)) (fun i _ => zs1.length - (intOf i).toNat)
      case atStart => exact ⟨0, [], _, _, Nat.zero_le _, rfl, Nat.le_refl _, hid goodL.nil, HB0⟩
      case round =>
        clear HB0
        obtain ⟨k, l, v, vr, hk, rfl, hlk, HG, HB⟩ := hrel
        by_cases hlt : k < zs1.length
        · obtain ⟨z, hz⟩ : ∃ z, zs1[k] = z := ⟨_, rfl⟩
          obtain ⟨b0, o, rfl, hb0, hop⟩ := QOp.facts HSL.out hlt z hz
          have HOP := hid (rg_ext hop hb0 HB.out.ex)
          have hb1 : b0 < wr.heap.size := Nat.lt_of_lt_of_le hb0 HB.out.ex.size
          have hcw : wr.cell? ⟨b0, o + k * 5, none⟩ = some (.int .i64 z.what) := HOP.out 0 _ rfl
          clear hop hz
          have hk1 : (k : Int) < (zs1.length : Int) := by omega
          have hk0 : k + 1 ≤ zs1.length := by omega
          have hk3 : (0 : Int) ≤ (k : Int) := by omega
          have hk2 : k < zs1.length := hlt
          have hl3 : l.length ≤ 300 := by omega
          by_cases hw : z.what = 3
          · rw [hw] at hcw
            obtain ⟨tk, htk⟩ : ∃ tk, l.takeWhile (dueB z.now) = tk := ⟨_, rfl⟩
            obtain ⟨rest, hrest⟩ : ∃ x, l.drop tk.length = x := ⟨_, rfl⟩
            have htl : tk.length ≤ 300 := by rw [← htk]; have := (List.takeWhile_prefix (dueB z.now) (l := l)).length_le; omega
            have hrl : rest.length ≤ l.length := by rw [← hrest, List.length_drop]; omega
            have HG9 := hid (hrest ▸ HG.out.drop tk.length)
            have HT := hid htk
            have HT2 := hid hrest
            clear htk hrest
            go_upto_region 10 with (fail)
            refine wp_region_only (S := nwr w) (.rd 0 (.rd 1 (.rd 2 (.rd 3 (.rd 4 (.rd 5 (.rd 7 (.rd 8 (.rd 9 (.rd 10 (.rd 11 (.rd 12 (.ac 6 (.ac 13 (.ac 14 (.rd 15 .done)))))))))))))))) (by kernel_rfl) (by kernel_rfl) (fun _ _ d _ _ h => by cases d <;> exact h) (by simp only [Ord.map, nthOp, List.append]; rfl) ?_
            intro d0
            have HB2 := hid (HB.out.ext (Ext.grow (Ext.refl _) d0))
            have HO2 := hid (rg_ext HOP.out hb1 (Ext.grow (Ext.refl _) d0))
            have hb2 : b0 < (Go.Proofs.Ytlbemgkdpagoiaa.grow wr d0).heap.size := by rw [grow_size]; omega
            clear HB HOP
            generalize Go.Proofs.Ytlbemgkdpagoiaa.grow wr d0 = W2 at HB2 HO2 hb2 ⊢
            have hnb : ¬ nwr w b0 := Nat.not_le_of_lt hb0
            repeat' (first | (refine only_read (by rfl) (fun K hK => ?_); (refine quiet_index 22 _ _ rfl ⟨b0, o, none⟩ zs1.length cap1 k 5 rfl rfl hk2 (by kernel_rfl) (fun w => by kernel_rfl) ?_; rw [Addr.add_lit]); refine hK _ ?_; clear hK K; simp only [Act.put, List.setIfInBounds_toArray, List.set_cons_zero, List.set_cons_succ]) | (refine only_read (by rfl) (fun K hK => ?_); refine quiet_runD 49 rfl (.pointer (some ⟨b0, o + k * 5 + 4, none⟩)) (fun w => by kernel_rfl) ?_; refine hK _ ?_; clear hK K; simp only [Act.put, List.setIfInBounds_toArray, List.set_cons_zero, List.set_cons_succ]) | (refine only_read (by rfl) (fun K hK => ?_); refine quiet_runD 56 rfl (.pointer (some ⟨b0, o + k * 5 + 4, none⟩)) (fun w => by kernel_rfl) ?_; refine hK _ ?_; clear hK K; simp only [Act.put, List.setIfInBounds_toArray, List.set_cons_zero, List.set_cons_succ]) | (refine only_read (by rfl) (fun K hK => ?_); refine quiet_load1 2 _ rfl b0 (o + k * 5 + 4) rfl (.int .i64 z.now) _ (fun w' hw' => rg_only HO2.out hb2 hw' hnb 4 _ rfl) Try.underlying2 rfl ?_; refine hK _ ?_; clear hK K; simp only [Act.put, List.setIfInBounds_toArray, List.set_cons_zero, List.set_cons_succ]) | (refine only_read (by rfl) (fun K hK => ?_); go_big_quiet_op; refine hK _ ?_; clear hK K))
            refine only_act (by rfl) (fun K hK => ?_)
            go_wp2_with (go_at_call 12; refine (plDueQ w a0 q base _ _ r rb _ _ _ HB2.out HG.out (by omega) z.now tk rest HT.out HT2.out).mono ?_; rintro e w3 ⟨A3, c3, v3, rfl, HB3, HN3, HR3, HF3⟩)
            refine ⟨_, Only.refl _ _, HN3.out, ?_⟩
            refine only_act (by rfl) (fun K hK => ?_)
            go_wp2_with (go_at_call 13; refine (plDueR w a0 q base _ _ r rb _ _ _ HB3.out HG.out (by omega) z.now tk rest HT.out HT2.out).mono ?_; rintro e w4 ⟨A4, c4, v4, rfl, HB4, HN4, HR4, HO4⟩)
            refine ⟨_, Only.refl _ _, Only.trans' HN3.out HN4.out, ?_⟩
            have HR34 := hid (HR3.out.only HO4.out (fun b o e => HF3.out b o e))
            refine only_act (by rfl) (fun K hK => ?_)
            go_wp2_with (go_at_call 11; refine (hsame_ A3 A4 _ c3 c4 tk _ rfl HR34.out HR4.out (by omega)).mono ?_; rintro e w5 ⟨rfl, hx5⟩)
            refine ⟨_, Only.refl _ _, Only.transExt (Only.trans' HN3.out HN4.out) hx5, ?_⟩
            (refine only_read (by rfl) (fun K hK => ?_); refine quiet_runD 60 rfl (.bool false) (fun w => by kernel_rfl) ?_; refine hK _ ?_; clear hK K; simp only [Act.put, List.setIfInBounds_toArray, List.set_cons_zero, List.set_cons_succ])
            refine only_nil ?_
            have HB9 := hid (HB4.out.ext hx5)
            clear HB2 HB3 HB4 HR3 HR4 HR34 HN3 HN4 HO4 HF3 hx5 HT HT2 HO2 HG
            go_wp2_with (first | (go_at_call 16; refine (plBytesQ w a0 q base _ _ r rb _ _ _ HB9.out).mono ?_; rintro e w9 ⟨rfl, rfl⟩) | (go_at_call 17; refine (plBytesR w a0 q base _ _ r rb _ _ _ HB9.out HG9.out (by omega)).mono ?_; rintro e w10 ⟨rfl, HB10⟩) | (go_at_call 18; refine (plManyQ w a0 q base _ _ r rb _ _ _ HB10.out).mono ?_; rintro e w9 ⟨rfl, rfl⟩) | (go_at_call 19; refine (plManyR w a0 q base _ _ r rb _ _ _ HB10.out).mono ?_; rintro e w9 ⟨rfl, rfl⟩) | (go_at_call 20; refine (plFullQ w a0 q base _ _ r rb _ _ _ HB10.out).mono ?_; rintro e w11 ⟨rfl, HB11⟩) | (go_at_call 21; refine (plFullR w a0 q base _ _ r rb _ _ _ HB11.out HG9.out (by omega)).mono ?_; rintro e w12 ⟨rfl, HB12⟩) | (go_at_call 22; refine (plAllQ w a0 q base _ _ r rb _ _ _ HB12.out HG9.out (by omega)).mono ?_; rintro e w13 ⟨A13, c13, rfl, HR13, HB13⟩) | (go_at_call 23; refine (plAllR w a0 q base _ _ r rb _ _ _ HB13.out HG9.out (by omega)).mono ?_; rintro e w14 ⟨A14, c14, rfl, HR14, HB14, hx14⟩) | (go_at_call 11; refine (hsame_ A13 A14 _ c13 c14 rest _ rfl (HR13.out.ext hx14.out) HR14.out (by omega)).mono ?_; rintro e w15 ⟨rfl, hx15⟩))
            go_roundw
            case rel => exact ⟨k + 1, rest, _, _, hk0, by go_num, by omega, HG9, hid (HB14.out.ext hx15)⟩
            case measure => simp [intOf]; omega
          · cases hok : okQ l z.h with
            | false =>
              have HG9 := HG
              go_upto_region 12 with (fail)
              refine wp_region_only (S := nwr w) (.rd 0 (.rd 1 (.rd 2 (.rd 3 (.rd 4 (.rd 5 (.rd 7 (.rd 8 (.rd 9 (.rd 10 (.rd 11 (.rd 12 (.ac 6 (.ac 13 (.rd 14 .done))))))))))))))) (by kernel_rfl) (by kernel_rfl) (fun _ _ d _ _ h => by cases d <;> exact h) (by simp only [Ord.map, nthOp, List.append]; rfl) ?_
              intro d0
              have HB2 := hid (HB.out.ext (Ext.grow (Ext.refl _) d0))
              have HO2 := hid (rg_ext HOP.out hb1 (Ext.grow (Ext.refl _) d0))
              have hb2 : b0 < (Go.Proofs.Ytlbemgkdpagoiaa.grow wr d0).heap.size := by rw [grow_size]; omega
              clear HB HOP
              generalize Go.Proofs.Ytlbemgkdpagoiaa.grow wr d0 = W2 at HB2 HO2 hb2 ⊢
              have hnb : ¬ nwr w b0 := Nat.not_le_of_lt hb0
              repeat' (first | (refine only_read (by rfl) (fun K hK => ?_); (refine quiet_index 22 _ _ rfl ⟨b0, o, none⟩ zs1.length cap1 k 5 rfl rfl hk2 (by kernel_rfl) (fun w => by kernel_rfl) ?_; rw [Addr.add_lit]); refine hK _ ?_; clear hK K; simp only [Act.put, List.setIfInBounds_toArray, List.set_cons_zero, List.set_cons_succ]) | (refine only_read (by rfl) (fun K hK => ?_); refine quiet_runD 65 rfl (.pointer (some ⟨b0, o + k * 5 + 1, none⟩)) (fun w => by kernel_rfl) ?_; refine hK _ ?_; clear hK K; simp only [Act.put, List.setIfInBounds_toArray, List.set_cons_zero, List.set_cons_succ]) | (refine only_read (by rfl) (fun K hK => ?_); refine quiet_runD 72 rfl (.pointer (some ⟨b0, o + k * 5 + 1, none⟩)) (fun w => by kernel_rfl) ?_; refine hK _ ?_; clear hK K; simp only [Act.put, List.setIfInBounds_toArray, List.set_cons_zero, List.set_cons_succ]) | (refine only_read (by rfl) (fun K hK => ?_); refine quiet_loadC 29 _ rfl b0 (o + k * 5 + 1) rfl [.int .i64 z.h.at_, .int .i64 z.h.n, .int .i64 z.h.time] _ (fun w' hw' => QOp.held (rg_only HO2.out hb2 hw' hnb)) Try.underlying29 rfl (by kernel_rfl) ?_; refine hK _ ?_; clear hK K; simp only [Act.put, List.setIfInBounds_toArray, List.set_cons_zero, List.set_cons_succ]) | (refine only_read (by rfl) (fun K hK => ?_); go_big_quiet_op; refine hK _ ?_; clear hK K))
              refine only_act (by rfl) (fun K hK => ?_)
              go_wp2_with (go_at_call 14; refine (plNoQ w a0 q base _ _ r rb _ _ _ HB2.out HG.out (by omega) z.h hok).mono ?_; rintro e w3 ⟨rfl, HB3, HN3⟩)
              refine ⟨_, Only.refl _ _, HN3.out, ?_⟩
              refine only_act (by rfl) (fun K hK => ?_)
              go_wp2_with (go_at_call 15; refine (plNoR w a0 q base _ _ r rb _ _ _ HB3.out HG.out (by omega) z.h hok).mono ?_; rintro e w4 ⟨rfl, HB4, HN4⟩)
              refine ⟨_, Only.refl _ _, Only.trans' HN3.out HN4.out, ?_⟩
              (refine only_read (by rfl) (fun K hK => ?_); refine quiet_runD 75 rfl (.bool false) (fun w => by kernel_rfl) ?_; refine hK _ ?_; clear hK K; simp only [Act.put, List.setIfInBounds_toArray, List.set_cons_zero, List.set_cons_succ])
              refine only_nil ?_
              have HB9 := HB4
              clear HB2 HB3 HB4 HN3 HN4 HO2 HG
              go_wp2_with (first | (go_at_call 16; refine (plBytesQ w a0 q base _ _ r rb _ _ _ HB9.out).mono ?_; rintro e w9 ⟨rfl, rfl⟩) | (go_at_call 17; refine (plBytesR w a0 q base _ _ r rb _ _ _ HB9.out HG9.out (by omega)).mono ?_; rintro e w10 ⟨rfl, HB10⟩) | (go_at_call 18; refine (plManyQ w a0 q base _ _ r rb _ _ _ HB10.out).mono ?_; rintro e w9 ⟨rfl, rfl⟩) | (go_at_call 19; refine (plManyR w a0 q base _ _ r rb _ _ _ HB10.out).mono ?_; rintro e w9 ⟨rfl, rfl⟩) | (go_at_call 20; refine (plFullQ w a0 q base _ _ r rb _ _ _ HB10.out).mono ?_; rintro e w11 ⟨rfl, HB11⟩) | (go_at_call 21; refine (plFullR w a0 q base _ _ r rb _ _ _ HB11.out HG9.out (by omega)).mono ?_; rintro e w12 ⟨rfl, HB12⟩) | (go_at_call 22; refine (plAllQ w a0 q base _ _ r rb _ _ _ HB12.out HG9.out (by omega)).mono ?_; rintro e w13 ⟨A13, c13, rfl, HR13, HB13⟩) | (go_at_call 23; refine (plAllR w a0 q base _ _ r rb _ _ _ HB13.out HG9.out (by omega)).mono ?_; rintro e w14 ⟨A14, c14, rfl, HR14, HB14, hx14⟩) | (go_at_call 11; refine (hsame_ A13 A14 _ c13 c14 l _ rfl (HR13.out.ext hx14.out) HR14.out (by omega)).mono ?_; rintro e w15 ⟨rfl, hx15⟩))
              go_roundw
              case rel => exact ⟨k + 1, l, _, _, hk0, by go_num, by omega, HG9, hid (HB14.out.ext hx15)⟩
              case measure => simp [intOf]; omega
            | true =>
              have HG9 := hid (HG.out.put hok)
              have hpl : (l ++ [z.h]).length = l.length + 1 := by simp
              go_upto_region 12 with (fail)
              refine wp_region_only (S := nwr w) (.rd 0 (.rd 1 (.rd 2 (.rd 3 (.rd 4 (.rd 5 (.rd 7 (.rd 8 (.rd 9 (.rd 10 (.rd 11 (.rd 12 (.ac 6 (.ac 13 (.rd 14 .done))))))))))))))) (by kernel_rfl) (by kernel_rfl) (fun _ _ d _ _ h => by cases d <;> exact h) (by simp only [Ord.map, nthOp, List.append]; rfl) ?_
              intro d0
              have HB2 := hid (HB.out.ext (Ext.grow (Ext.refl _) d0))
              have HO2 := hid (rg_ext HOP.out hb1 (Ext.grow (Ext.refl _) d0))
              have hb2 : b0 < (Go.Proofs.Ytlbemgkdpagoiaa.grow wr d0).heap.size := by rw [grow_size]; omega
              clear HB HOP
              generalize Go.Proofs.Ytlbemgkdpagoiaa.grow wr d0 = W2 at HB2 HO2 hb2 ⊢
              have hnb : ¬ nwr w b0 := Nat.not_le_of_lt hb0
              repeat' (first | (refine only_read (by rfl) (fun K hK => ?_); (refine quiet_index 22 _ _ rfl ⟨b0, o, none⟩ zs1.length cap1 k 5 rfl rfl hk2 (by kernel_rfl) (fun w => by kernel_rfl) ?_; rw [Addr.add_lit]); refine hK _ ?_; clear hK K; simp only [Act.put, List.setIfInBounds_toArray, List.set_cons_zero, List.set_cons_succ]) | (refine only_read (by rfl) (fun K hK => ?_); refine quiet_runD 65 rfl (.pointer (some ⟨b0, o + k * 5 + 1, none⟩)) (fun w => by kernel_rfl) ?_; refine hK _ ?_; clear hK K; simp only [Act.put, List.setIfInBounds_toArray, List.set_cons_zero, List.set_cons_succ]) | (refine only_read (by rfl) (fun K hK => ?_); refine quiet_runD 72 rfl (.pointer (some ⟨b0, o + k * 5 + 1, none⟩)) (fun w => by kernel_rfl) ?_; refine hK _ ?_; clear hK K; simp only [Act.put, List.setIfInBounds_toArray, List.set_cons_zero, List.set_cons_succ]) | (refine only_read (by rfl) (fun K hK => ?_); refine quiet_loadC 29 _ rfl b0 (o + k * 5 + 1) rfl [.int .i64 z.h.at_, .int .i64 z.h.n, .int .i64 z.h.time] _ (fun w' hw' => QOp.held (rg_only HO2.out hb2 hw' hnb)) Try.underlying29 rfl (by kernel_rfl) ?_; refine hK _ ?_; clear hK K; simp only [Act.put, List.setIfInBounds_toArray, List.set_cons_zero, List.set_cons_succ]) | (refine only_read (by rfl) (fun K hK => ?_); go_big_quiet_op; refine hK _ ?_; clear hK K))
              refine only_act (by rfl) (fun K hK => ?_)
              go_wp2_with (go_at_call 14; refine (plPutQ w a0 q base _ _ r rb _ _ _ HB2.out HG.out (by omega) z.h hok).mono ?_; rintro e w3 ⟨v3, rfl, HB3, HN3⟩)
              refine ⟨_, Only.refl _ _, HN3.out, ?_⟩
              refine only_act (by rfl) (fun K hK => ?_)
              go_wp2_with (go_at_call 15; refine (plPutR w a0 q base _ _ r rb _ _ _ HB3.out HG.out (by omega) z.h hok).mono ?_; rintro e w4 ⟨v4, rfl, HB4, HN4⟩)
              refine ⟨_, Only.refl _ _, Only.trans' HN3.out HN4.out, ?_⟩
              (refine only_read (by rfl) (fun K hK => ?_); refine quiet_runD 75 rfl (.bool false) (fun w => by kernel_rfl) ?_; refine hK _ ?_; clear hK K; simp only [Act.put, List.setIfInBounds_toArray, List.set_cons_zero, List.set_cons_succ])
              refine only_nil ?_
              obtain ⟨l2, hl2⟩ : ∃ x, l ++ [z.h] = x := ⟨_, rfl⟩
              rw [hl2] at HB4 HG9 hpl
              have hpl2 : l2.length ≤ l.length + 1 := by omega
              clear hpl hl2
              have HB9 := HB4
              clear HB2 HB3 HB4 HN3 HN4 HO2 HG
              go_wp2_with (first | (go_at_call 16; refine (plBytesQ w a0 q base _ _ r rb _ _ _ HB9.out).mono ?_; rintro e w9 ⟨rfl, rfl⟩) | (go_at_call 17; refine (plBytesR w a0 q base _ _ r rb _ _ _ HB9.out HG9.out (by omega)).mono ?_; rintro e w10 ⟨rfl, HB10⟩) | (go_at_call 18; refine (plManyQ w a0 q base _ _ r rb _ _ _ HB10.out).mono ?_; rintro e w9 ⟨rfl, rfl⟩) | (go_at_call 19; refine (plManyR w a0 q base _ _ r rb _ _ _ HB10.out).mono ?_; rintro e w9 ⟨rfl, rfl⟩) | (go_at_call 20; refine (plFullQ w a0 q base _ _ r rb _ _ _ HB10.out).mono ?_; rintro e w11 ⟨rfl, HB11⟩) | (go_at_call 21; refine (plFullR w a0 q base _ _ r rb _ _ _ HB11.out HG9.out (by omega)).mono ?_; rintro e w12 ⟨rfl, HB12⟩) | (go_at_call 22; refine (plAllQ w a0 q base _ _ r rb _ _ _ HB12.out HG9.out (by omega)).mono ?_; rintro e w13 ⟨A13, c13, rfl, HR13, HB13⟩) | (go_at_call 23; refine (plAllR w a0 q base _ _ r rb _ _ _ HB13.out HG9.out (by omega)).mono ?_; rintro e w14 ⟨A14, c14, rfl, HR14, HB14, hx14⟩) | (go_at_call 11; refine (hsame_ A13 A14 _ c13 c14 l2 _ rfl (HR13.out.ext hx14.out) HR14.out (by omega)).mono ?_; rintro e w15 ⟨rfl, hx15⟩))
              go_roundw
              case rel => exact ⟨k + 1, l2, _, _, hk0, by go_num, by omega, HG9, hid (HB14.out.ext hx15)⟩
              case measure => simp [intOf]; omega
        · obtain rfl : k = zs1.length := by omega
          have hk1 : ¬ (zs1.length : Int) < (zs1.length : Int) := by omega
          go_wp2
          go_ret
          exact ⟨rfl, HB.out.ex⟩
    · have hli : (300 : Int) < (zs1.length : Int) := by omega
      go_enter Try.func3, Try.ntmps3
      go_wp2_with (first | (go_at_call 8; refine Calls.mono (head_ _) ?_; rintro e wh ⟨rfl, hxh⟩) | (go_at_call 9; refine (qnew_ a0 _ h1 h2).mono ?_; rintro e w1 ⟨q, rfl, hwq, hxn, hq1⟩) | (go_at_call 10; refine (rqnew_ a0 _ h1 h2).mono ?_; rintro e w2 ⟨r, rfl, hwr, hxr, hr2⟩))
      go_ret
      exact ⟨rfl, (hxh.trans hxn).trans hxr⟩
  · have hno : a0 < 1 ∨ 16777216 < a0 := by omega
    go_enter Try.func3, Try.ntmps3
    go_wp2_with (first | (go_at_call 8; refine Calls.mono (head_ _) ?_; rintro e wh ⟨rfl, hxh⟩) | (go_at_call 9; refine (qnew_no a0 _ hno).mono ?_; rintro e w1 ⟨rfl, rfl⟩) | (go_at_call 10; refine (rqnew_no a0 _ hno).mono ?_; rintro e w2 ⟨rfl, rfl⟩))
    go_ret
    exact ⟨rfl, hxh⟩
end quarPlays

end Go.Proofs.Ytlbemgkdpagoiaa
