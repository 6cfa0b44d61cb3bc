/- The walk of FramesPlays. -/
import Derived.Test.YtfpfmjcajdknoaaFraW
namespace Go.Proofs.Ytfpfmjcajdknoaa
set_option linter.unusedSimpArgs false
set_option linter.unusedVariables false
open Go.RowKit

open Go.Deep Go.RowKit
namespace framesPlays
set_option maxRecDepth 100000 in
set_option maxHeartbeats 8000000 in
theorem walk (A0 : Option Addr) (cap0 : Nat) (zs0 : List FOp) (w : World) (wl0 : zs0.length ≤ maxLen) (hs0 : SlAtN w A0 38 (zs0.map FOp.cells)) (wz0 : ∀ z ∈ zs0, z.good) :
    Calls Try.prog 3 #[.slice A0 zs0.length cap0] w fun e w' => e = .returned (.bool true) ∧ Ext w w' := by
  unfold maxLen at wl0
  by_cases hlen : zs0.length ≤ 300
  · have HSL := hid hs0
    have hli : ¬ (300 : Int) < (zs0.length : Int) := by omega
    clear hs0 wz0
    go_enter Try.func3, Try.ntmps3
    go_upto_region 2 with (go_at_call 7; refine Calls.mono (head_ _) ?_; rintro e wh ⟨rfl, hxh⟩)
    go_upto_region 3 with (go_at_call 8; refine (new_ _ Z0).mono ?_; rintro e w1 ⟨b, rfl, hwb, hx1, hs1⟩)
    go_upto_region 4 with (go_at_call 9; refine (rnew_ _ Z0).mono ?_; rintro e w2 ⟨rb, rfl, hwrb, hx2, hr1⟩)
    have HE := hid ((hxh.trans hx1).trans hx2)
    have hb2 : b < w1.heap.size := hs1.1
    have hs1 := hid (hs1.ext hx2)
    have hr1 := hid hr1
    have hwbase : w.heap.size ≤ wh.heap.size := hxh.size
    have hwb2 : w.heap.size ≤ w1.heap.size := (hxh.trans hx1).size
    clear hxh hx1 hx2
    generalize wh.heap.size = base at hs1 hwb hwbase
    generalize w1.heap.size = base2 at hr1 hwrb hb2 hwb2
    have hv0 : ¬ (Value.slice none 0 0).ownBlock = some rb := by intro h; cases h
    go_wp2
    go_loopw [6] (fun i wr => ∃ (k n : Nat) (v vr : Value) (L : Nat → Cap), k ≤ zs0.length ∧ i = .int .i64 k ∧ n ≤ 16 ∧ Hid (Stk wr b base v n L) ∧ Hid (RStk wr rb base2 vr n L) ∧ (¬ v.ownBlock = some rb) ∧ Hid (Ext w wr)) (fun i _ => zs0.length - (intOf i).toNat)
    case atStart => exact ⟨0, 0, _, _, Z0, Nat.zero_le _, rfl, by omega, hs1, hr1, hv0, HE⟩
    case round =>
      clear hs1 hr1 HE hv0
      obtain ⟨k, n, v, vr, L, hk, rfl, hn, HS, HR, hvr, HE⟩ := hrel
      have hlen2 : zs0.length ≤ 300 := hlen
      clear hlen
      by_cases hlt : k < zs0.length
      · obtain ⟨z, hz⟩ : ∃ z, zs0[k] = z := ⟨_, rfl⟩
        obtain ⟨b0, o, rfl, hb0, hop⟩ := FOp.facts HSL.out hlt z hz
        have HOP := hid (hop.ext HE.out)
        clear hop hz
        have HVR := hid hvr
        clear hvr
        have hk1 : (k : Int) < (zs0.length : Int) := by omega
        have hk0 : k + 1 ≤ zs0.length := by omega
        have hk3 : (0 : Int) ≤ (k : Int) := by omega
        go_upto_region 10 with (first | (with_reducible refine wpList_load_mid rfl 34 (.tmp 38) rfl b0 (o + k * 38) rfl z.cells _ (Rng.range HOP.out) Try.underlying34 rfl (by rw [FOp.len]; kernel_rfl) ?_) | (refine wpList_store_mid rfl 34 (.tmp 7) (.tmp 39) rfl wr.heap.size 0 z.cells.toArray rfl rfl (by rw [show z.cells.toArray.size = 38 from FOp.len z]; exact (there_newAt rfl (by kernel_rfl)).2) (by rw [show z.cells.toArray.size = 38 from FOp.len z]; kernel_rfl) (FOp.one z) ?_))
        refine wp_gen (fun W => Hid (Ext wr W) ∧ Hid (Row W wr.heap.size 0 z.cells)) ⟨hid (Ext.only (Ext.alloc (Ext.refl wr) _) (Only.setCells (S := fun i => i = wr.heap.size) (.inl rfl) _ _ (Only.refl _ _)) (by rintro i rfl; exact Nat.le_refl _)), hid ?hr⟩ ?_
        case hr => exact Row.put (Row.new wr _ _) (FOp.len z)
        rintro W1 ⟨hx1, hR1⟩
        have HS1 := hid (HS.out.ext hx1.out)
        have HR1 := hid (HR.out.ext hx1.out)
        have HE1 := hid (HE.out.trans hx1.out)
        have hcw := hR1.out.rng.opWhat
        have hbo := hR1.out.lt
        have HVB : Hid (¬ v.ownBlock = some wr.heap.size) := hid (fun h => by have := (HS.out.2.2.2.1.lt _ h).2; omega)
        have hbbo : ¬ wr.heap.size = b := by have := HS.out.1; omega
        have hrbo : ¬ wr.heap.size = rb := by have := HR.out.1; omega
        clear HS HR HE hx1 HOP
        generalize wr.heap.size = bo at hR1 hcw hbo HVB hbbo hrbo ⊢
        by_cases hw : z.what = 3
        · rw [hw] at hcw
          rcases n with _ | m
          · go_upto_region 17 with (first | (go_at_call 10; refine (pop0_ b base _ _ _ HS1.out).mono ?_; rintro e w3 ⟨rfl, hx3⟩) | (with_reducible refine wpList_store_mid rfl 32 (.tmp 10) (.tmp 55) rfl w3.heap.size 0 #[.bool false, .int .i64 0, .int .i64 0, .int .i64 0, .int .i64 0, .int .i64 0, .bool false, .int .i64 0, .int .i64 0, .int .i64 0, .int .i64 0, .int .i64 0, .bool false, .int .i64 0, .int .i64 0, .int .i64 0, .int .i64 0, .int .i64 0, .bool false, .int .i64 0, .int .i64 0, .int .i64 0, .int .i64 0, .int .i64 0, .bool false, .int .i64 0, .int .i64 0, .int .i64 0, .int .i64 0, .int .i64 0] rfl rfl ((there_newAt rfl (by kernel_rfl)).2) (by kernel_rfl) (by simp [Value.oneCell']) ?_))
            refine wp_gen (fun W => Hid (Ext w3 W) ∧ Hid (Row W w3.heap.size 0 [.bool false, .int .i64 0, .int .i64 0, .int .i64 0, .int .i64 0, .int .i64 0, .bool false, .int .i64 0, .int .i64 0, .int .i64 0, .int .i64 0, .int .i64 0, .bool false, .int .i64 0, .int .i64 0, .int .i64 0, .int .i64 0, .int .i64 0, .bool false, .int .i64 0, .int .i64 0, .int .i64 0, .int .i64 0, .int .i64 0, .bool false, .int .i64 0, .int .i64 0, .int .i64 0, .int .i64 0, .int .i64 0])) ⟨hid (Ext.only (Ext.alloc (Ext.refl w3) _) (Only.setCells (S := fun i => i = w3.heap.size) (.inl rfl) _ _ (Only.refl _ _)) (by rintro i rfl; exact Nat.le_refl _)), hid ?hr⟩ ?_
            case hr => exact Row.put (Row.new w3 _ _) rfl
            rintro W3 ⟨hx4, hRa⟩
            have hx5 := hx3.trans hx4.out
            have hr5 := HR1.out.ext hx5
            clear hx3 hx4
            generalize w3.heap.size = ba at hRa ⊢
            go_upto_region 18 with (first | (go_at_call 11; refine (rpop0_ rb base2 _ _ _ hr5).mono ?_; rintro e w4 ⟨rfl, hx6⟩) | (with_reducible refine wpList_store_mid rfl 32 (.tmp 12) (.tmp 60) rfl w4.heap.size 0 #[.bool false, .int .i64 0, .int .i64 0, .int .i64 0, .int .i64 0, .int .i64 0, .bool false, .int .i64 0, .int .i64 0, .int .i64 0, .int .i64 0, .int .i64 0, .bool false, .int .i64 0, .int .i64 0, .int .i64 0, .int .i64 0, .int .i64 0, .bool false, .int .i64 0, .int .i64 0, .int .i64 0, .int .i64 0, .int .i64 0, .bool false, .int .i64 0, .int .i64 0, .int .i64 0, .int .i64 0, .int .i64 0] rfl rfl ((there_newAt rfl (by kernel_rfl)).2) (by kernel_rfl) (by simp [Value.oneCell']) ?_))
            refine wp_gen (fun W => Hid (Ext w4 W) ∧ Hid (Row W w4.heap.size 0 [.bool false, .int .i64 0, .int .i64 0, .int .i64 0, .int .i64 0, .int .i64 0, .bool false, .int .i64 0, .int .i64 0, .int .i64 0, .int .i64 0, .int .i64 0, .bool false, .int .i64 0, .int .i64 0, .int .i64 0, .int .i64 0, .int .i64 0, .bool false, .int .i64 0, .int .i64 0, .int .i64 0, .int .i64 0, .int .i64 0, .bool false, .int .i64 0, .int .i64 0, .int .i64 0, .int .i64 0, .int .i64 0])) ⟨hid (Ext.only (Ext.alloc (Ext.refl w4) _) (Only.setCells (S := fun i => i = w4.heap.size) (.inl rfl) _ _ (Only.refl _ _)) (by rintro i rfl; exact Nat.le_refl _)), hid ?hr⟩ ?_
            case hr => exact Row.put (Row.new w4 _ _) rfl
            rintro W4 ⟨hx7, hRb⟩
            have hx8 := hx6.trans hx7.out
            have HS2 := hid ((HS1.out.ext hx5).ext hx8)
            have HR2 := hid (hr5.ext hx8)
            have HE2 := hid ((HE1.out.trans hx5).trans hx8)
            have hRa2 := hid (hRa.out.ext hx8)
            have hv2 := HVR.out
            clear hx5 hx6 hx7 hx8 hr5 hRa HS1 HR1 HE1
            generalize w4.heap.size = bb at hRb ⊢
            go_upto_region 27 with (first | (with_reducible refine wpList_load_midG rfl 32 (.tmp 10) rfl ba 0 rfl [.bool false, .int .i64 0, .int .i64 0, .int .i64 0, .int .i64 0, .int .i64 0, .bool false, .int .i64 0, .int .i64 0, .int .i64 0, .int .i64 0, .int .i64 0, .bool false, .int .i64 0, .int .i64 0, .int .i64 0, .int .i64 0, .int .i64 0, .bool false, .int .i64 0, .int .i64 0, .int .i64 0, .int .i64 0, .int .i64 0, .bool false, .int .i64 0, .int .i64 0, .int .i64 0, .int .i64 0, .int .i64 0] _ (hRa2.out.range) Try.underlying32 rfl (by kernel_rfl) ?_) | (with_reducible refine wpList_load_midG rfl 32 (.tmp 12) rfl bb 0 rfl [.bool false, .int .i64 0, .int .i64 0, .int .i64 0, .int .i64 0, .int .i64 0, .bool false, .int .i64 0, .int .i64 0, .int .i64 0, .int .i64 0, .int .i64 0, .bool false, .int .i64 0, .int .i64 0, .int .i64 0, .int .i64 0, .int .i64 0, .bool false, .int .i64 0, .int .i64 0, .int .i64 0, .int .i64 0, .int .i64 0, .bool false, .int .i64 0, .int .i64 0, .int .i64 0, .int .i64 0, .int .i64 0] _ (hRb.out.range) Try.underlying32 rfl (by kernel_rfl) ?_) | (refine wpList_runG rfl (.bool true) (frame_eqq (fun _ => nullC) _ (.tmp 66) (.tmp 67) 32 _ rfl rfl rfl) ?_))
            clear hRa2 hRb
            go_wp2_with (first | (go_at_call 17; refine (many_ b base _ _ _ _ HS2.out).mono ?_; rintro e w9 ⟨rfl, rfl⟩) | (go_at_call 18; refine (rmany_ rb base2 _ _ _ _ HR2.out).mono ?_; rintro e w9 ⟨rfl, rfl⟩) | (go_at_call 12; refine (capsS_ b base _ _ _ _ HS2.out (by omega)).mono ?_; rintro e w9 ⟨Ac, cc, rfl, hrd9, hx9⟩) | (go_at_call 20; refine (rcapsS_ rb base2 _ _ _ _ (HR2.out.ext hx9) (by omega)).mono ?_; rintro e w10 ⟨Ad, cd, rfl, hrd10, hx10⟩) | (go_at_call 19; refine (same_ Ac Ad _ cc cd _ _ (RdC.ext hrd9.out hx10) hrd10.out (by omega)).mono ?_; rintro e w11 ⟨rfl, hx11⟩))
            have hx12 := (hx9.trans hx10).trans hx11
            go_roundw
            case rel => exact ⟨k + 1, 0, _, _, L, hk0, by go_num, by omega, hid (HS2.out.ext hx12), hid (HR2.out.ext hx12), hv2, hid (HE2.out.trans hx12)⟩
            case measure => simp [intOf]; omega
          · obtain ⟨g, cap, rfl, hgb, _⟩ := HS1.out.2.2.2.1.form (by omega)
            obtain ⟨gr, capr, rfl, hgrb, _⟩ := HR1.out.2.2.2.1.form (by omega)
            have hpop : ∀ w', Stk w' b base (.slice (some ⟨g, 0, none⟩) (m + 1) cap) (m + 1) L → Calls Try.prog 10 #[.pointer (some ⟨b, 0, none⟩)] w' fun e w'' => e = .returned (.tuple #[.agg (rowCells L m).toArray, .bool true]) ∧ Only (· = b) w' w'' ∧ w''.cell? ⟨b, 0, none⟩ = some (.slice (some ⟨g, 0, none⟩) m cap) ∧ w''.frozen? ⟨b, 0, none⟩ = false := fun w' h => pop_ b base g m cap L w' h (by omega)
            have hm5 : ((m * 5 : Nat) : Int) = (m * 5 : Nat) := rfl
            clear hm5
            go_upto_region 17 with (first | (go_at_call 10; refine Calls.mono (hpop _ HS1.out) ?_; rintro e w3 ⟨rfl, ho3, hc3, hf3⟩) | (with_reducible refine wpList_store_mid rfl 32 (.tmp 10) (.tmp 55) rfl w3.heap.size 0 _ rfl rfl ((there_newAt rfl (by kernel_rfl)).2) (by kernel_rfl) (rowArr_one L m) ?_))
            have hs4 := Stk.popped HS1.out ho3 hc3 hf3
            have hr4 := HR1.out.side HS1.out hb2 HVR.out ho3.tch
            have hE4 := HS1.out.extOf HE1.out hwbase ho3.tch
            refine wp_gen (fun W => Hid (Ext w3 W) ∧ Hid (Row W w3.heap.size 0 (rowCells L m))) ⟨hid (Ext.only (Ext.alloc (Ext.refl w3) _) (Only.setCells (S := fun i => i = w3.heap.size) (.inl rfl) _ _ (Only.refl _ _)) (by rintro i rfl; exact Nat.le_refl _)), hid ?hr⟩ ?_
            case hr => exact Row.put (Row.new w3 _ _) (rowCells_length _ _)
            rintro W3 ⟨hx4, hRa⟩
            have hs5 := hs4.ext hx4.out
            have hr5 := hr4.ext hx4.out
            have hE5 := hE4.trans hx4.out
            have hba : rb < w3.heap.size := hr4.1
            clear hs4 hr4 hE4 ho3 hc3 hf3 hx4 HS1 HR1 HE1 hpop
            generalize w3.heap.size = ba at hRa hba ⊢
            go_upto_region 18 with (first | (go_at_call 11; refine (rpop_ rb base2 gr m capr L _ hr5 (by omega)).mono ?_; rintro e w4 ⟨rfl, ho4, hc4, hf4⟩) | (with_reducible refine wpList_store_mid rfl 32 (.tmp 12) (.tmp 60) rfl w4.heap.size 0 _ rfl rfl ((there_newAt rfl (by kernel_rfl)).2) (by kernel_rfl) (rowArr_one L m) ?_))
            have hv2 : ¬ (Value.slice (some ⟨g, 0, none⟩) m cap).ownBlock = some rb := HVR.out
            have hs6 := hs5.side hr5 hb2 HVR.out ho4.tch
            have hr6 := RStk.popped hr5 ho4 hc4 hf4
            have hE6 := hr5.extOf hE5 hwb2 ho4.tch
            have hRa6 := hRa.out.only ho4 (show ¬ ba = rb by omega)
            refine wp_gen (fun W => Hid (Ext w4 W) ∧ Hid (Row W w4.heap.size 0 (rowCells L m))) ⟨hid (Ext.only (Ext.alloc (Ext.refl w4) _) (Only.setCells (S := fun i => i = w4.heap.size) (.inl rfl) _ _ (Only.refl _ _)) (by rintro i rfl; exact Nat.le_refl _)), hid ?hr⟩ ?_
            case hr => exact Row.put (Row.new w4 _ _) (rowCells_length _ _)
            rintro W4 ⟨hx7, hRb⟩
            have HS2 := hid (hs6.ext hx7.out)
            have HR2 := hid (hr6.ext hx7.out)
            have HE2 := hid (hE6.trans hx7.out)
            have hRa2 := hid (hRa6.ext hx7.out)
            clear hs5 hr5 hE5 hs6 hr6 hE6 hRa6 hx7 ho4 hc4 hf4 hRa
            generalize w4.heap.size = bb at hRb ⊢
            go_upto_region 27 with (first | (with_reducible refine wpList_load_midG rfl 32 (.tmp 10) rfl ba 0 rfl (rowCells L m) _ (hRa2.out.range) Try.underlying32 rfl (by rw [rowCells_length]; kernel_rfl) ?_) | (with_reducible refine wpList_load_midG rfl 32 (.tmp 12) rfl bb 0 rfl (rowCells L m) _ (hRb.out.range) Try.underlying32 rfl (by rw [rowCells_length]; kernel_rfl) ?_) | (refine wpList_runG rfl (.bool true) (frame_eqq (fun i => L (m * 5 + i)) _ (.tmp 66) (.tmp 67) 32 _ rfl rfl rfl) ?_))
            clear hRa2 hRb
            go_wp2_with (first | (go_at_call 17; refine (many_ b base _ _ _ _ HS2.out).mono ?_; rintro e w9 ⟨rfl, rfl⟩) | (go_at_call 18; refine (rmany_ rb base2 _ _ _ _ HR2.out).mono ?_; rintro e w9 ⟨rfl, rfl⟩) | (go_at_call 12; refine (capsS_ b base _ _ _ _ HS2.out (by omega)).mono ?_; rintro e w9 ⟨Ac, cc, rfl, hrd9, hx9⟩) | (go_at_call 20; refine (rcapsS_ rb base2 _ _ _ _ (HR2.out.ext hx9) (by omega)).mono ?_; rintro e w10 ⟨Ad, cd, rfl, hrd10, hx10⟩) | (go_at_call 19; refine (same_ Ac Ad _ cc cd _ _ (RdC.ext hrd9.out hx10) hrd10.out (by omega)).mono ?_; rintro e w11 ⟨rfl, hx11⟩))
            have hx12 := (hx9.trans hx10).trans hx11
            go_roundw
            case rel => exact ⟨k + 1, m, _, _, L, hk0, by go_num, by omega, hid (HS2.out.ext hx12), hid (HR2.out.ext hx12), hv2, hid (HE2.out.trans hx12)⟩
            case measure => simp [intOf]; omega
        · by_cases hw4 : z.what = 4
          · rw [hw4] at hcw
            have hat := hR1.out.rng.opAt
            have hcp1 := hR1.out.rng.opCap
            simp only [Nat.zero_add] at hat hcp1
            have hsz1 : rb < W1.heap.size := HR1.out.1
            have hszb : b < W1.heap.size := HS1.out.1
            have hvlt : ∀ g, v.ownBlock = some g → g < W1.heap.size := fun g h => (HS1.out.2.2.2.1.lt g h).2
            have hvrlt : ∀ g, vr.ownBlock = some g → g < W1.heap.size := fun g h => (HR1.out.2.2.2.1.lt g h).2
            have hww : w.heap.size ≤ W1.heap.size := HE1.out.size
            go_upto_region 21 with (go_at_call 12; refine (caps_ b base _ _ _ _ HS1.out (by omega)).mono ?_; rintro e w3 ⟨vx, rfl, hox, hx3⟩)
            have hat3 := (hx3.cells bo 37 hbo).trans hat
            have hcp := hid (hcp1.ext hx3)
            have hs3 := hid (HS1.out.ext hx3)
            have hr3 := hid (HR1.out.ext hx3)
            have hE3 := hid (HE1.out.trans hx3)
            have hbo3 : bo < w3.heap.size := Nat.lt_of_lt_of_le hbo hx3.size
            have hsz3 := hx3.size
            clear HS1 HR1 HE1 hx3 hat hcp1 hR1 hcw
            generalize hat0 : z.at_ = at0 at hat3
            clear hat0
            by_cases h0 : at0 < 0
            · have h1 : ¬ (0 : Int) ≤ at0 := by omega
              obtain ⟨i0, hi, hz0, hz1, hz2⟩ := info_parts info_cap
              have HI := hid hi
              clear hi
              obtain ⟨A, ca, rfl⟩ : ∃ A c, vx = .slice A (n * 5) c := by
                rcases hox.out.2 with ⟨h, h2⟩ | ⟨g, c, _, h, _⟩
                · exact ⟨none, 0, by rw [h, h2]⟩
                · exact ⟨some ⟨g, 0, none⟩, c, h⟩
              go_upto_region 25 with (first | (with_reducible refine wpList_load_mid rfl 29 (.tmp 94) rfl bo 31 rfl z.c.cells _ (Rng.range hcp.out) Try.underlying29 rfl (by kernel_rfl) ?_) | (refine wpList_build1 rfl 37 29 (.tmp 95) rfl z.c.cells.toArray 6 rfl rfl (by omega) (by omega) Try.underlying37 (by kernel_rfl) (by kernel_rfl) ?_) | (at_builtin; refine wpList_append_own _ rfl _ _ 37 rfl W1.heap.size 29 i0 _ 6 48 Try.underlying37 HI.out hz0 hz1 hz2 rfl (by decide) _ _ _ rfl (ownsRow_ext hox.out (Ext.alloc (Ext.refl w3) _)) ⟨w3.heap.size, 0, none⟩ 1 1 z.c.cells rfl rfl ?c1 (cells_one _) ?c3 ?c4 ?c5 ?_))
              (try case c1 => exact fun j u hj => by rw [Addr.add_lit]; exact (Row.new w3 _ _).range j u hj)
              case c3 => unfold maxLen; omega
              case c4 => omega
              case c5 => first | omega | (simp only [World.size_alloc]; omega) | (simp; omega)
              intro v4 w4 hown4 hgrow _
              have hO4 := grownOnly (S := fun i => (Value.slice A (n * 5) ca).ownBlock = some i) hgrow fun g h => h
              have hs4 := hid (Stk.only (hs3.out.ext (Ext.alloc (Ext.refl w3) _)) hO4 (fun h => by have := (hox.out.lt _ h).1; omega) (fun g h h2 => by have := (hox.out.lt _ h2).1; have := hvlt g h; omega))
              have hr4 := hid (RStk.only (hr3.out.ext (Ext.alloc (Ext.refl w3) _)) hO4 (fun h => by have := (hox.out.lt _ h).1; omega) (fun g h h2 => by have := (hox.out.lt _ h2).1; have := hvrlt g h; omega))
              have hE4 := hid (Ext.only (Ext.alloc hE3.out _) hO4 (fun i h => by have := (hox.out.lt i h).1; omega))
              obtain ⟨g4, c4, rfl, _⟩ := hown4.form (by omega)
              clear hO4 hgrow hs3 hr3 hE3 hox hown4 hcp hat3
              generalize hA : (some ⟨g4, 0, none⟩ : Option Addr) = A2
              clear hA
              go_upto_region 26 with (go_at_call 13; refine (put_len b base n (n * 5 + 1) c4 A2 v L Z0 _ hs4.out (by omega) (by omega) (by omega)).mono ?_; rintro e w5 ⟨rfl, rfl⟩)
              go_upto_region 27 with (go_at_call 14; refine (rput_len rb base2 n (n * 5 + 1) c4 A2 vr L _ hr4.out (by omega) (by omega) (by omega)).mono ?_; rintro e w6 ⟨rfl, rfl⟩)
              have HS2 := hs4
              have HR2 := hr4
              have HE2 := hE4
              have hv2 := HVR.out
              clear hs4 hr4 hE4
              go_wp2_with (first | (go_at_call 17; refine (many_ b base _ _ _ _ HS2.out).mono ?_; rintro e w9 ⟨rfl, rfl⟩) | (go_at_call 18; refine (rmany_ rb base2 _ _ _ _ HR2.out).mono ?_; rintro e w9 ⟨rfl, rfl⟩) | (go_at_call 12; refine (capsS_ b base _ _ _ _ HS2.out (by omega)).mono ?_; rintro e w9 ⟨Ac, cc, rfl, hrd9, hx9⟩) | (go_at_call 20; refine (rcapsS_ rb base2 _ _ _ _ (HR2.out.ext hx9) (by omega)).mono ?_; rintro e w10 ⟨Ad, cd, rfl, hrd10, hx10⟩) | (go_at_call 19; refine (same_ Ac Ad _ cc cd _ _ (RdC.ext hrd9.out hx10) hrd10.out (by omega)).mono ?_; rintro e w11 ⟨rfl, hx11⟩))
              have hx12 := (hx9.trans hx10).trans hx11
              go_roundw
              case rel => exact ⟨k + 1, n, _, _, L, hk0, by go_num, hn, hid (HS2.out.ext hx12), hid (HR2.out.ext hx12), hv2, hid (HE2.out.trans hx12)⟩
              case measure => simp [intOf]; omega
            · have h1 : (0 : Int) ≤ at0 := by omega
              obtain ⟨kk, rfl⟩ : ∃ kk : Nat, at0 = kk := ⟨at0.toNat, by omega⟩
              by_cases hlt5 : kk < n * 5
              · have h2 : (kk : Int) < (n : Int) * 5 := by omega
                have h3 : (kk : Int) < ((n * 5 : Nat) : Int) := by omega
                obtain ⟨g, ca, rfl, hgb, hgl⟩ := hox.out.form (by omega)
                go_upto_region 25 with (first | (with_reducible refine wpList_load_mid rfl 29 (.tmp 87) rfl bo 31 rfl z.c.cells _ (Rng.range hcp.out) Try.underlying29 rfl (by kernel_rfl) ?_) | (refine wpList_store_mid rfl 29 (.tmp 89) (.tmp 88) rfl g (kk * 6) z.c.cells.toArray rfl rfl (ownsRow_there hox.out (show kk * 6 + 6 ≤ n * 5 * 6 by omega)) (by kernel_rfl) (all_oneCell_toArray (cells_one z.c)) ?_))
                refine wp_gen (fun W => Hid (Only (fun i => i = g) w3 W) ∧ Hid (W.ownsRow W1.heap.size 29 6 (.slice (some ⟨g, 0, none⟩) (n * 5) ca) (n * 5) (capsList (n * 5) (upd L kk z.c)))) ⟨hid (Only.setCells (S := fun i => i = g) (.inl rfl) _ _ (Only.refl _ _)), hid (owns_putC (k := kk) hox.out hlt5 z.c)⟩ ?_
                rintro W4 ⟨ho4, hox4⟩
                generalize upd L kk z.c = M at hox4
                have hs4 := hid (Stk.only hs3.out ho4.out (fun h => by omega) (fun g' h h2 => by have := hvlt g' h; omega))
                have hr4 := hid (RStk.only hr3.out ho4.out (fun h => by omega) (fun g' h h2 => by have := hvrlt g' h; omega))
                have hE4 := hid (Ext.only hE3.out ho4.out (by rintro i rfl; omega))
                have hap : ∀ b' o', (some ⟨g, 0, none⟩ : Option Addr) = some ⟨b', o', none⟩ → ¬ v.ownBlock = some b' := by
                  intro b' o' e h
                  simp only [Option.some.injEq, Addr.mk.injEq] at e
                  have := hvlt b' h
                  omega
                generalize hA : (some ⟨g, 0, none⟩ : Option Addr) = A at hox4 hap ⊢
                clear hA
                have hrdx : RdC W4 A (n * 5) M ∧ n * 5 ≤ ca := by
                  obtain ⟨A', ca', e1, hr, _, hc⟩ := owns_caps hox4.out
                  simp only [Value.slice.injEq] at e1
                  obtain ⟨rfl, _, rfl⟩ := e1
                  exact ⟨hr, hc⟩
                have hrd4 := hid hrdx.1
                have hca := hrdx.2
                clear hrdx
                clear hs3 hr3 hE3 hox ho4 hox4 hcp hat3
                cases hal : allR (n * 5) M with
                | true =>
                  go_upto_region 26 with (go_at_call 13; refine (put_ b base n ca A v L M _ hs4.out (by omega) hrd4.out hca hap hal).mono ?_; rintro e w5 ⟨rfl, hs5, ho5⟩)
                  have ho5t : Only (tch b v) _ _ := ho5.mono fun i h => .inr h
                  have hr5 := hid (hr4.out.side hs4.out hb2 HVR.out ho5t)
                  have hE5 := hid (hs4.out.extOf hE4.out hwbase ho5t)
                  have hrd5 := hid (RdC.onlyA hrd4.out ho5 hap)
                  have hs5 := hid hs5
                  clear hs4 hr4 hE4 hrd4 ho5 ho5t
                  go_upto_region 27 with (go_at_call 14; refine (rput_ rb base2 n (n * 5) ca A vr L M _ hr5.out (by omega) rfl hrd5.out hca hal).mono ?_; rintro e w6 ⟨v6, rfl, hr6, ho6, _⟩)
                  have HS2 := hid (hs5.out.side hr5.out hb2 HVR.out ho6.tch)
                  have HR2 := hid hr6
                  have HE2 := hid (hr5.out.extOf hE5.out hwb2 ho6.tch)
                  have hv2 := HVR.out
                  clear hs5 hr5 hE5 hrd5 hr6 ho6 hap
                  go_wp2_with (first | (go_at_call 17; refine (many_ b base _ _ _ _ HS2.out).mono ?_; rintro e w9 ⟨rfl, rfl⟩) | (go_at_call 18; refine (rmany_ rb base2 _ _ _ _ HR2.out).mono ?_; rintro e w9 ⟨rfl, rfl⟩) | (go_at_call 12; refine (capsS_ b base _ _ _ _ HS2.out (by omega)).mono ?_; rintro e w9 ⟨Ac, cc, rfl, hrd9, hx9⟩) | (go_at_call 20; refine (rcapsS_ rb base2 _ _ _ _ (HR2.out.ext hx9) (by omega)).mono ?_; rintro e w10 ⟨Ad, cd, rfl, hrd10, hx10⟩) | (go_at_call 19; refine (same_ Ac Ad _ cc cd _ _ (RdC.ext hrd9.out hx10) hrd10.out (by omega)).mono ?_; rintro e w11 ⟨rfl, hx11⟩))
                  have hx12 := (hx9.trans hx10).trans hx11
                  go_roundw
                  case rel => exact ⟨k + 1, n, _, _, M, hk0, by go_num, hn, hid (HS2.out.ext hx12), hid (HR2.out.ext hx12), hv2, hid (HE2.out.trans hx12)⟩
                  case measure => simp [intOf]; omega
                | false =>
                  go_upto_region 26 with (go_at_call 13; refine (put_no b base n ca A v L M _ hs4.out (by omega) hrd4.out hal).mono ?_; rintro e w5 ⟨rfl, hx5⟩)
                  have hr5 := hid (hr4.out.ext hx5)
                  have hrd5 := hid (RdC.ext hrd4.out hx5)
                  go_upto_region 27 with (go_at_call 14; refine (rput_no rb base2 n (n * 5) ca A vr L M _ hr5.out (by omega) rfl hrd5.out hal).mono ?_; rintro e w6 ⟨rfl, hx6⟩)
                  have HS2 := hid ((hs4.out.ext hx5).ext hx6)
                  have HR2 := hid (hr5.out.ext hx6)
                  have HE2 := hid ((hE4.out.trans hx5).trans hx6)
                  have hv2 := HVR.out
                  clear hs4 hr4 hE4 hr5 hrd4 hrd5 hx5 hx6 hap
                  go_wp2_with (first | (go_at_call 17; refine (many_ b base _ _ _ _ HS2.out).mono ?_; rintro e w9 ⟨rfl, rfl⟩) | (go_at_call 18; refine (rmany_ rb base2 _ _ _ _ HR2.out).mono ?_; rintro e w9 ⟨rfl, rfl⟩) | (go_at_call 12; refine (capsS_ b base _ _ _ _ HS2.out (by omega)).mono ?_; rintro e w9 ⟨Ac, cc, rfl, hrd9, hx9⟩) | (go_at_call 20; refine (rcapsS_ rb base2 _ _ _ _ (HR2.out.ext hx9) (by omega)).mono ?_; rintro e w10 ⟨Ad, cd, rfl, hrd10, hx10⟩) | (go_at_call 19; refine (same_ Ac Ad _ cc cd _ _ (RdC.ext hrd9.out hx10) hrd10.out (by omega)).mono ?_; rintro e w11 ⟨rfl, hx11⟩))
                  have hx12 := (hx9.trans hx10).trans hx11
                  go_roundw
                  case rel => exact ⟨k + 1, n, _, _, L, hk0, by go_num, hn, hid (HS2.out.ext hx12), hid (HR2.out.ext hx12), hv2, hid (HE2.out.trans hx12)⟩
                  case measure => simp [intOf]; omega
              · have h2 : ¬ (kk : Int) < (n : Int) * 5 := by omega
                have h3 : ¬ (kk : Int) < ((n * 5 : Nat) : Int) := by omega
                have h4 : ¬ (kk : Int) < 0 := by omega
                obtain ⟨A, ca, rfl⟩ : ∃ A c, vx = .slice A (n * 5) c := by
                  rcases hox.out.2 with ⟨h, h2⟩ | ⟨g, c, _, h, _⟩
                  · exact ⟨none, 0, by rw [h, h2]⟩
                  · exact ⟨some ⟨g, 0, none⟩, c, h⟩
                go_upto_region 25 with (fail)
                have hap : ∀ b' o', A = some ⟨b', o', none⟩ → ¬ v.ownBlock = some b' := by
                  intro b' o' e h
                  subst e
                  have := (hox.out.lt b' rfl).1
                  have := hvlt b' h
                  omega
                have hrdx : RdC w3 A (n * 5) L ∧ n * 5 ≤ ca := by
                  obtain ⟨A', ca', e1, hr, _, hc⟩ := owns_caps hox.out
                  simp only [Value.slice.injEq] at e1
                  obtain ⟨rfl, _, rfl⟩ := e1
                  exact ⟨hr, hc⟩
                have hrd4 := hid hrdx.1
                have hca := hrdx.2
                clear hrdx
                have hs4 := hs3
                have hr4 := hr3
                have hE4 := hE3
                clear hs3 hr3 hE3 hox hcp hat3
                cases hal : allR (n * 5) L with
                | true =>
                  go_upto_region 26 with (go_at_call 13; refine (put_ b base n ca A v L L _ hs4.out (by omega) hrd4.out hca hap hal).mono ?_; rintro e w5 ⟨rfl, hs5, ho5⟩)
                  have ho5t : Only (tch b v) _ _ := ho5.mono fun i h => .inr h
                  have hr5 := hid (hr4.out.side hs4.out hb2 HVR.out ho5t)
                  have hE5 := hid (hs4.out.extOf hE4.out hwbase ho5t)
                  have hrd5 := hid (RdC.onlyA hrd4.out ho5 hap)
                  have hs5 := hid hs5
                  clear hs4 hr4 hE4 hrd4 ho5 ho5t
                  go_upto_region 27 with (go_at_call 14; refine (rput_ rb base2 n (n * 5) ca A vr L L _ hr5.out (by omega) rfl hrd5.out hca hal).mono ?_; rintro e w6 ⟨v6, rfl, hr6, ho6, _⟩)
                  have HS2 := hid (hs5.out.side hr5.out hb2 HVR.out ho6.tch)
                  have HR2 := hid hr6
                  have HE2 := hid (hr5.out.extOf hE5.out hwb2 ho6.tch)
                  have hv2 := HVR.out
                  clear hs5 hr5 hE5 hrd5 hr6 ho6 hap
                  go_wp2_with (first | (go_at_call 17; refine (many_ b base _ _ _ _ HS2.out).mono ?_; rintro e w9 ⟨rfl, rfl⟩) | (go_at_call 18; refine (rmany_ rb base2 _ _ _ _ HR2.out).mono ?_; rintro e w9 ⟨rfl, rfl⟩) | (go_at_call 12; refine (capsS_ b base _ _ _ _ HS2.out (by omega)).mono ?_; rintro e w9 ⟨Ac, cc, rfl, hrd9, hx9⟩) | (go_at_call 20; refine (rcapsS_ rb base2 _ _ _ _ (HR2.out.ext hx9) (by omega)).mono ?_; rintro e w10 ⟨Ad, cd, rfl, hrd10, hx10⟩) | (go_at_call 19; refine (same_ Ac Ad _ cc cd _ _ (RdC.ext hrd9.out hx10) hrd10.out (by omega)).mono ?_; rintro e w11 ⟨rfl, hx11⟩))
                  have hx12 := (hx9.trans hx10).trans hx11
                  go_roundw
                  case rel => exact ⟨k + 1, n, _, _, L, hk0, by go_num, hn, hid (HS2.out.ext hx12), hid (HR2.out.ext hx12), hv2, hid (HE2.out.trans hx12)⟩
                  case measure => simp [intOf]; omega
                | false =>
                  go_upto_region 26 with (go_at_call 13; refine (put_no b base n ca A v L L _ hs4.out (by omega) hrd4.out hal).mono ?_; rintro e w5 ⟨rfl, hx5⟩)
                  have hr5 := hid (hr4.out.ext hx5)
                  have hrd5 := hid (RdC.ext hrd4.out hx5)
                  go_upto_region 27 with (go_at_call 14; refine (rput_no rb base2 n (n * 5) ca A vr L L _ hr5.out (by omega) rfl hrd5.out hal).mono ?_; rintro e w6 ⟨rfl, hx6⟩)
                  have HS2 := hid ((hs4.out.ext hx5).ext hx6)
                  have HR2 := hid (hr5.out.ext hx6)
                  have HE2 := hid ((hE4.out.trans hx5).trans hx6)
                  have hv2 := HVR.out
                  clear hs4 hr4 hE4 hr5 hrd4 hrd5 hx5 hx6 hap
                  go_wp2_with (first | (go_at_call 17; refine (many_ b base _ _ _ _ HS2.out).mono ?_; rintro e w9 ⟨rfl, rfl⟩) | (go_at_call 18; refine (rmany_ rb base2 _ _ _ _ HR2.out).mono ?_; rintro e w9 ⟨rfl, rfl⟩) | (go_at_call 12; refine (capsS_ b base _ _ _ _ HS2.out (by omega)).mono ?_; rintro e w9 ⟨Ac, cc, rfl, hrd9, hx9⟩) | (go_at_call 20; refine (rcapsS_ rb base2 _ _ _ _ (HR2.out.ext hx9) (by omega)).mono ?_; rintro e w10 ⟨Ad, cd, rfl, hrd10, hx10⟩) | (go_at_call 19; refine (same_ Ac Ad _ cc cd _ _ (RdC.ext hrd9.out hx10) hrd10.out (by omega)).mono ?_; rintro e w11 ⟨rfl, hx11⟩))
                  have hx12 := (hx9.trans hx10).trans hx11
                  go_roundw
                  case rel => exact ⟨k + 1, n, _, _, L, hk0, by go_num, hn, hid (HS2.out.ext hx12), hid (HR2.out.ext hx12), hv2, hid (HE2.out.trans hx12)⟩
                  case measure => simp [intOf]; omega
          · rcases Nat.lt_or_ge n 16 with hn16 | hn16
            · cases hrt : allR 5 z.F with
              | true =>
                have hRF := hid hR1.out.rng.frame
                rw [Nat.zero_add] at hRF
                have hTB : ¬ tch b v bo := by
                  rintro (h | h)
                  · omega
                  · exact HVB.out h
                have hpush : ∀ w', Stk w' b base v n L → Calls Try.prog 15 #[.pointer (some ⟨b, 0, none⟩), .agg (capsList 5 z.F).toArray] w' fun e w'' => ∃ v', e = .returned (.bool true) ∧ Stk w'' b base v' (n + 1) (appL L n z.F) ∧ Only (tch b v) w' w'' ∧ (∀ g, v'.ownBlock = some g → v.ownBlock = some g ∨ w'.heap.size ≤ g) := fun w' h => push_ b base n v L z.F w' h hn16 hrt
                have hrpush : ∀ w', RStk w' rb base2 vr n L → Calls Try.prog 16 #[.pointer (some ⟨rb, 0, none⟩), .agg (capsList 5 z.F).toArray] w' fun e w'' => ∃ v', e = .returned (.bool true) ∧ RStk w'' rb base2 v' (n + 1) (appL L n z.F) ∧ Only (tch rb vr) w' w'' ∧ (∀ g, v'.ownBlock = some g → vr.ownBlock = some g ∨ w'.heap.size ≤ g) := fun w' h => rpush_ rb base2 n vr L z.F w' h hn16 hrt
                go_upto_region 14 with (first | (with_reducible refine wpList_load_mid rfl 32 (.tmp 43) rfl bo 1 rfl (capsList 5 z.F) _ (Rng.range hRF.out) Try.underlying32 rfl (by rw [capsList_length]; kernel_rfl) ?_) | (go_at_call 15; refine Calls.mono (hpush _ HS1.out) ?_; rintro e w3 ⟨v3, rfl, hs3, ho3, hn3⟩))
                have hr3 := hid (HR1.out.side HS1.out hb2 HVR.out ho3)
                have hRF3 := hid (hRF.out.only ho3 hTB)
                have hE3 := hid (HS1.out.extOf HE1.out hwbase ho3)
                have hv2 : ¬ v3.ownBlock = some rb := fun h => by
                  rcases hn3 rb h with h | h
                  · exact HVR.out h
                  · have := HR1.out.1; omega
                have hs3 := hid hs3
                clear HS1 HR1 HE1 ho3 hn3 hRF hR1 hpush
                go_upto_region 27 with (first | (with_reducible refine wpList_load_mid rfl 32 (.tmp 47) rfl bo 1 rfl (capsList 5 z.F) _ (Rng.range hRF3.out) Try.underlying32 rfl (by rw [capsList_length]; kernel_rfl) ?_) | (go_at_call 16; refine Calls.mono (hrpush _ hr3.out) ?_; rintro e w4 ⟨v4, rfl, hr4, ho4, _⟩))
                have HS2 := hid (hs3.out.side hr3.out hb2 hv2 ho4)
                have HR2 := hid hr4
                have HE2 := hid (hr3.out.extOf hE3.out hwb2 ho4)
                clear hs3 hr3 hE3 ho4 hr4 hRF3 hrpush
                go_wp2_with (first | (go_at_call 17; refine (many_ b base _ _ _ _ HS2.out).mono ?_; rintro e w9 ⟨rfl, rfl⟩) | (go_at_call 18; refine (rmany_ rb base2 _ _ _ _ HR2.out).mono ?_; rintro e w9 ⟨rfl, rfl⟩) | (go_at_call 12; refine (capsS_ b base _ _ _ _ HS2.out (by omega)).mono ?_; rintro e w9 ⟨Ac, cc, rfl, hrd9, hx9⟩) | (go_at_call 20; refine (rcapsS_ rb base2 _ _ _ _ (HR2.out.ext hx9) (by omega)).mono ?_; rintro e w10 ⟨Ad, cd, rfl, hrd10, hx10⟩) | (go_at_call 19; refine (same_ Ac Ad _ cc cd _ _ (RdC.ext hrd9.out hx10) hrd10.out (by omega)).mono ?_; rintro e w11 ⟨rfl, hx11⟩))
                have hx12 := (hx9.trans hx10).trans hx11
                go_roundw
                case rel => exact ⟨k + 1, n + 1, _, _, _, hk0, by go_num, hn16, hid (HS2.out.ext hx12), hid (HR2.out.ext hx12), hv2, hid (HE2.out.trans hx12)⟩
                case measure => simp [intOf]; omega
              | false =>
                have hRF := hid hR1.out.rng.frame
                rw [Nat.zero_add] at hRF
                have hpush : ∀ w', Stk w' b base v n L → Calls Try.prog 15 #[.pointer (some ⟨b, 0, none⟩), .agg (capsList 5 z.F).toArray] w' fun e w'' => e = .returned (.bool false) ∧ Ext w' w'' := fun w' h => push_no b base n v L z.F w' h hn16 hrt
                have hrpush : ∀ w', RStk w' rb base2 vr n L → Calls Try.prog 16 #[.pointer (some ⟨rb, 0, none⟩), .agg (capsList 5 z.F).toArray] w' fun e w'' => e = .returned (.bool false) ∧ Ext w' w'' := fun w' h => rpush_no rb base2 n vr L z.F w' h (by simp [hrt])
                go_upto_region 14 with (first | (with_reducible refine wpList_load_mid rfl 32 (.tmp 43) rfl bo 1 rfl (capsList 5 z.F) _ (Rng.range hRF.out) Try.underlying32 rfl (by rw [capsList_length]; kernel_rfl) ?_) | (go_at_call 15; refine Calls.mono (hpush _ HS1.out) ?_; rintro e w3 ⟨rfl, hx3⟩))
                have hr3 := hid (HR1.out.ext hx3)
                have hRF3 := hid (hRF.out.ext hx3)
                go_upto_region 27 with (first | (with_reducible refine wpList_load_mid rfl 32 (.tmp 47) rfl bo 1 rfl (capsList 5 z.F) _ (Rng.range hRF3.out) Try.underlying32 rfl (by rw [capsList_length]; kernel_rfl) ?_) | (go_at_call 16; refine Calls.mono (hrpush _ hr3.out) ?_; rintro e w4 ⟨rfl, hx4⟩))
                have HS2 := hid ((HS1.out.ext hx3).ext hx4)
                have HR2 := hid (hr3.out.ext hx4)
                have HE2 := hid ((HE1.out.trans hx3).trans hx4)
                have hv2 := HVR.out
                clear HS1 HR1 HE1 hx3 hx4 hr3 hRF hRF3 hpush hrpush hR1
                go_wp2_with (first | (go_at_call 17; refine (many_ b base _ _ _ _ HS2.out).mono ?_; rintro e w9 ⟨rfl, rfl⟩) | (go_at_call 18; refine (rmany_ rb base2 _ _ _ _ HR2.out).mono ?_; rintro e w9 ⟨rfl, rfl⟩) | (go_at_call 12; refine (capsS_ b base _ _ _ _ HS2.out (by omega)).mono ?_; rintro e w9 ⟨Ac, cc, rfl, hrd9, hx9⟩) | (go_at_call 20; refine (rcapsS_ rb base2 _ _ _ _ (HR2.out.ext hx9) (by omega)).mono ?_; rintro e w10 ⟨Ad, cd, rfl, hrd10, hx10⟩) | (go_at_call 19; refine (same_ Ac Ad _ cc cd _ _ (RdC.ext hrd9.out hx10) hrd10.out (by omega)).mono ?_; rintro e w11 ⟨rfl, hx11⟩))
                have hx12 := (hx9.trans hx10).trans hx11
                go_roundw
                case rel => exact ⟨k + 1, n, _, _, L, hk0, by go_num, by omega, hid (HS2.out.ext hx12), hid (HR2.out.ext hx12), hv2, hid (HE2.out.trans hx12)⟩
                case measure => simp [intOf]; omega
            · obtain rfl : n = 16 := by omega
              have hRF := hid hR1.out.rng.frame
              rw [Nat.zero_add] at hRF
              have hpush : ∀ w', Stk w' b base v 16 L → Calls Try.prog 15 #[.pointer (some ⟨b, 0, none⟩), .agg (capsList 5 z.F).toArray] w' fun e w'' => e = .returned (.bool false) ∧ Ext w' w'' := fun w' h => push_full b base v L z.F w' h
              have hrpush : ∀ w', RStk w' rb base2 vr 16 L → Calls Try.prog 16 #[.pointer (some ⟨rb, 0, none⟩), .agg (capsList 5 z.F).toArray] w' fun e w'' => e = .returned (.bool false) ∧ Ext w' w'' := fun w' h => rpush_no rb base2 16 vr L z.F w' h (by simp)
              go_upto_region 14 with (first | (with_reducible refine wpList_load_mid rfl 32 (.tmp 43) rfl bo 1 rfl (capsList 5 z.F) _ (Rng.range hRF.out) Try.underlying32 rfl (by rw [capsList_length]; kernel_rfl) ?_) | (go_at_call 15; refine Calls.mono (hpush _ HS1.out) ?_; rintro e w3 ⟨rfl, hx3⟩))
              have hr3 := hid (HR1.out.ext hx3)
              have hRF3 := hid (hRF.out.ext hx3)
              go_upto_region 27 with (first | (with_reducible refine wpList_load_mid rfl 32 (.tmp 47) rfl bo 1 rfl (capsList 5 z.F) _ (Rng.range hRF3.out) Try.underlying32 rfl (by rw [capsList_length]; kernel_rfl) ?_) | (go_at_call 16; refine Calls.mono (hrpush _ hr3.out) ?_; rintro e w4 ⟨rfl, hx4⟩))
              have HS2 := hid ((HS1.out.ext hx3).ext hx4)
              have HR2 := hid (hr3.out.ext hx4)
              have HE2 := hid ((HE1.out.trans hx3).trans hx4)
              have hv2 := HVR.out
              clear HS1 HR1 HE1 hx3 hx4 hr3 hRF hRF3 hpush hrpush hR1
              go_wp2_with (first | (go_at_call 17; refine (many_ b base _ _ _ _ HS2.out).mono ?_; rintro e w9 ⟨rfl, rfl⟩) | (go_at_call 18; refine (rmany_ rb base2 _ _ _ _ HR2.out).mono ?_; rintro e w9 ⟨rfl, rfl⟩) | (go_at_call 12; refine (capsS_ b base _ _ _ _ HS2.out (by omega)).mono ?_; rintro e w9 ⟨Ac, cc, rfl, hrd9, hx9⟩) | (go_at_call 20; refine (rcapsS_ rb base2 _ _ _ _ (HR2.out.ext hx9) (by omega)).mono ?_; rintro e w10 ⟨Ad, cd, rfl, hrd10, hx10⟩) | (go_at_call 19; refine (same_ Ac Ad _ cc cd _ _ (RdC.ext hrd9.out hx10) hrd10.out (by omega)).mono ?_; rintro e w11 ⟨rfl, hx11⟩))
              have hx12 := (hx9.trans hx10).trans hx11
              go_roundw
              case rel => exact ⟨k + 1, 16, _, _, L, hk0, by go_num, by omega, hid (HS2.out.ext hx12), hid (HR2.out.ext hx12), hv2, hid (HE2.out.trans hx12)⟩
              case measure => simp [intOf]; omega
      · obtain rfl : k = zs0.length := by omega
        have hk1 : ¬ (zs0.length : Int) < (zs0.length : Int) := by omega
        go_wp2
        go_ret
        exact ⟨rfl, HE.out⟩
  · have hli : (300 : Int) < (zs0.length : Int) := by omega
    clear hs0 wz0
    go_enter Try.func3, Try.ntmps3
    go_wp2_with (first | (go_at_call 7; refine Calls.mono (head_ _) ?_; rintro e wh ⟨rfl, hxh⟩) | (go_at_call 8; refine (new_ _ Z0).mono ?_; rintro e w1 ⟨b, rfl, hwb, hx1, hs1⟩) | (go_at_call 9; refine (rnew_ _ Z0).mono ?_; rintro e w2 ⟨rb, rfl, hwrb, hx2, hr1⟩))
    go_ret
    exact ⟨rfl, (hxh.trans hx1).trans hx2⟩
end framesPlays

end Go.Proofs.Ytfpfmjcajdknoaa
