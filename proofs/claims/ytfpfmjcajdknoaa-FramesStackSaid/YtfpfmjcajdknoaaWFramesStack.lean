/- The walk of FramesStack. -/
import Derived.Test.YtfpfmjcajdknoaaFraQ
namespace Go.Proofs.Ytfpfmjcajdknoaa
set_option linter.unusedSimpArgs false
set_option linter.unusedVariables false
open Go.RowKit

open Go.Deep Go.RowKit
namespace framesStack
set_option maxRecDepth 100000 in
set_option maxHeartbeats 8000000 in
theorem walk (A0 : Option Addr) (cap0 : Nat) (zs0 : List FOp) (w : World) (wl0 : zs0.length ≤ maxLen) (hs0 : SlAtN w A0 38 (zs0.map FOp.cells)) (wz0 : ∀ z ∈ zs0, z.good) :
    Calls Try.prog 4 #[.slice A0 zs0.length cap0] w fun e w' => e = .returned (.bool true) ∧ Ext w w' := by
  unfold maxLen at wl0
  by_cases hlen : zs0.length ≤ 300
  · have HSL := hid hs0
    have hli : ¬ (300 : Int) < (zs0.length : Int) := by omega
    clear hs0 wz0
    go_enter Try.func4, Try.ntmps4
    go_upto_region 2 with (go_at_call 7; refine Calls.mono (head_ _) ?_; rintro e wh ⟨rfl, hxh⟩)
    go_upto_region 3 with (go_at_call 8; refine (new_ _ Z0).mono ?_; rintro e w1 ⟨b, rfl, hwb, hx1, hs1⟩)
    have HE := hid (hxh.trans hx1)
    have hs1 := hid hs1
    have hb1 : b < w1.heap.size := hs1.out.1
    have hwbase : w.heap.size ≤ wh.heap.size := hxh.size
    have hwb1 : w.heap.size ≤ w1.heap.size := HE.out.size
    clear hxh hx1
    generalize wh.heap.size = base at hs1 hwb hwbase
    obtain ⟨base2, hb2⟩ : ∃ x, w1.heap.size = x := ⟨_, rfl⟩
    have hA0 : Hid (w1.ownsRow base2 32 30 (.slice none 0 0) 0 (capsList (0 * 5) Z0)) := hid (by simpa [capsList] using owns_nil w1 base2 32 30)
    have hb2' : base2 ≤ w1.heap.size := Nat.le_of_eq hb2.symm
    rw [hb2] at hb1 hwb1
    clear hb2
    go_wp2
    go_loopw [5, 6] (fun va i wr => ∃ (k n : Nat) (v : Value) (L : Nat → Cap), k ≤ zs0.length ∧ i = .int .i64 k ∧ n ≤ 16 ∧ Hid (Stk wr b base v n L) ∧ Hid (wr.ownsRow base2 32 30 va n (capsList (n * 5) L)) ∧ Hid (Ext w wr) ∧ base2 ≤ wr.heap.size) (fun _ i _ => zs0.length - (intOf i).toNat)
    case atStart => exact ⟨0, 0, _, Z0, Nat.zero_le _, rfl, by omega, hs1, hA0, HE, hb2'⟩
    case round =>
      clear hs1 hA0 HE
      obtain ⟨k, n, v, L, hk, rfl, hn, HS, HA, HE, hbs⟩ := hrel
      have hlen2 : zs0.length ≤ 300 := hlen
      clear hlen
      by_cases hlt : k < zs0.length
      · obtain ⟨z, hz⟩ : ∃ z, zs0[k] = z := ⟨_, rfl⟩
        obtain ⟨b0, o, rfl, hb0, hop⟩ := FOp.facts HSL.out hlt z hz
        have HOP := hid (hop.ext HE.out)
        clear hop hz
        have hk1 : (k : Int) < (zs0.length : Int) := by omega
        have hk0 : k + 1 ≤ zs0.length := by omega
        have hk3 : (0 : Int) ≤ (k : Int) := by omega
        go_upto_region 10 with (first | (with_reducible refine wpList_load_mid rfl 34 (.tmp 33) rfl b0 (o + k * 38) rfl z.cells _ (Rng.range HOP.out) Try.underlying34 rfl (by rw [FOp.len]; kernel_rfl) ?_) | (refine wpList_store_mid rfl 34 (.tmp 7) (.tmp 34) rfl wr.heap.size 0 z.cells.toArray rfl rfl (by rw [show z.cells.toArray.size = 38 from FOp.len z]; exact (there_newAt rfl (by kernel_rfl)).2) (by rw [show z.cells.toArray.size = 38 from FOp.len z]; kernel_rfl) (FOp.one z) ?_))
        refine wp_gen (fun W => Hid (Ext wr W) ∧ Hid (Row W wr.heap.size 0 z.cells)) ⟨hid (Ext.only (Ext.alloc (Ext.refl wr) _) (Only.setCells (S := fun i => i = wr.heap.size) (.inl rfl) _ _ (Only.refl _ _)) (by rintro i rfl; exact Nat.le_refl _)), hid ?hr⟩ ?_
        case hr => exact Row.put (Row.new wr _ _) (FOp.len z)
        rintro W1 ⟨hx1, hR1⟩
        have HS1 := hid (HS.out.ext hx1.out)
        have HA1 := hid (ownsRow_ext HA.out hx1.out)
        have HE1 := hid (HE.out.trans hx1.out)
        have hcw := hR1.out.rng.opWhat
        have hbo := hR1.out.lt
        replace hbs : base2 ≤ W1.heap.size := Nat.le_trans hbs hx1.out.size
        have HVB : Hid (¬ v.ownBlock = some wr.heap.size) := hid (fun h => by have := (HS.out.2.2.2.1.lt _ h).2; omega)
        have hbbo : ¬ wr.heap.size = b := by have := HS.out.1; omega
        clear HS HA HE hx1 HOP
        generalize wr.heap.size = bo at hR1 hcw hbo HVB hbbo ⊢
        by_cases hw : z.what = 3
        · rw [hw] at hcw
          rcases n with _ | m
          · obtain ⟨Aa, ca, rfl⟩ : ∃ A c, u5 = .slice A 0 c := by
              rcases HA1.out.2 with ⟨h, _⟩ | ⟨g, c, _, h, _⟩
              · exact ⟨none, 0, h⟩
              · exact ⟨some ⟨g, 0, none⟩, c, h⟩
            go_upto_region 12 with (first | (go_at_call 10; refine (pop0_ b base _ _ _ HS1.out).mono ?_; rintro e w3 ⟨rfl, hx3⟩) | (with_reducible refine wpList_store_mid rfl 32 (.tmp 8) (.tmp 41) rfl w3.heap.size 0 #[.bool false, .int .i64 0, .int .i64 0, .int .i64 0, .int .i64 0, .int .i64 0, .bool false, .int .i64 0, .int .i64 0, .int .i64 0, .int .i64 0, .int .i64 0, .bool false, .int .i64 0, .int .i64 0, .int .i64 0, .int .i64 0, .int .i64 0, .bool false, .int .i64 0, .int .i64 0, .int .i64 0, .int .i64 0, .int .i64 0, .bool false, .int .i64 0, .int .i64 0, .int .i64 0, .int .i64 0, .int .i64 0] rfl rfl ((there_newAt rfl (by kernel_rfl)).2) (by kernel_rfl) (by simp [Value.oneCell']) ?_))
            refine wp_gen (fun W => Hid (Ext w3 W) ∧ Hid (Row W w3.heap.size 0 [.bool false, .int .i64 0, .int .i64 0, .int .i64 0, .int .i64 0, .int .i64 0, .bool false, .int .i64 0, .int .i64 0, .int .i64 0, .int .i64 0, .int .i64 0, .bool false, .int .i64 0, .int .i64 0, .int .i64 0, .int .i64 0, .int .i64 0, .bool false, .int .i64 0, .int .i64 0, .int .i64 0, .int .i64 0, .int .i64 0, .bool false, .int .i64 0, .int .i64 0, .int .i64 0, .int .i64 0, .int .i64 0])) ⟨hid (Ext.only (Ext.alloc (Ext.refl w3) _) (Only.setCells (S := fun i => i = w3.heap.size) (.inl rfl) _ _ (Only.refl _ _)) (by rintro i rfl; exact Nat.le_refl _)), hid ?hr⟩ ?_
            case hr => exact Row.put (Row.new w3 _ _) rfl
            rintro W2 ⟨hx4, hR5⟩
            have HS2 := hid ((HS1.out.ext hx3).ext hx4.out)
            have HA2 := hid (ownsRow_ext (ownsRow_ext HA1.out hx3) hx4.out)
            have HE2 := hid ((HE1.out.trans hx3).trans hx4.out)
            have hsz : base2 ≤ W2.heap.size := by have := hx3.size; have := hx4.out.size; omega
            clear HS1 HA1 HE1 hx3 hx4 hR1 hcw hbo
            generalize w3.heap.size = bt at hR5 ⊢
            go_upto_region 14 with (first | (with_reducible refine wpList_load_midG rfl 32 (.tmp 8) rfl bt 0 rfl [.bool false, .int .i64 0, .int .i64 0, .int .i64 0, .int .i64 0, .int .i64 0, .bool false, .int .i64 0, .int .i64 0, .int .i64 0, .int .i64 0, .int .i64 0, .bool false, .int .i64 0, .int .i64 0, .int .i64 0, .int .i64 0, .int .i64 0, .bool false, .int .i64 0, .int .i64 0, .int .i64 0, .int .i64 0, .int .i64 0, .bool false, .int .i64 0, .int .i64 0, .int .i64 0, .int .i64 0, .int .i64 0] _ (hR5.out.range) Try.underlying32 rfl (by kernel_rfl) ?_) | (refine wpList_runG rfl (.bool false) (frame_ne (fun _ => nullC) _ (.tmp 52) (.tmp 53) 32 _ rfl rfl rfl) ?_))
            go_wp2_with (first | (go_at_call 17; refine (many_ b base _ _ _ _ HS2.out).mono ?_; rintro e w9 ⟨rfl, rfl⟩) | (go_at_call 12; refine (capsS_ b base _ _ _ _ HS2.out (by omega)).mono ?_; rintro e w9 ⟨Ac, cc, rfl, hrd9, hx9⟩))
            go_roundw
            case rel => exact ⟨k + 1, 0, v, L, hk0, by go_num, by omega, hid (HS2.out.ext hx9), hid (ownsRow_ext HA2.out hx9), hid (HE2.out.trans hx9), Nat.le_trans hsz hx9.size⟩
            case measure => simp [intOf]; omega
          · obtain ⟨g, cap, rfl, hgb, _⟩ := HS1.out.2.2.2.1.form (by omega)
            obtain ⟨ga, capa, rfl, hgab, _⟩ := HA1.out.form (by omega)
            have hpop : ∀ w', Stk w' b base (.slice (some ⟨g, 0, none⟩) (m + 1) cap) (m + 1) L → Calls Try.prog 10 #[.pointer (some ⟨b, 0, none⟩)] w' fun e w'' => e = .returned (.tuple #[.agg #[.bool (L (m * 5)).tag, .int .i64 (L (m * 5)).base, .int .i64 (L (m * 5)).top, .int .i64 (L (m * 5)).at_, .int .i64 (L (m * 5)).perms, .int .i64 (L (m * 5)).type, .bool (L (m * 5 + 1)).tag, .int .i64 (L (m * 5 + 1)).base, .int .i64 (L (m * 5 + 1)).top, .int .i64 (L (m * 5 + 1)).at_, .int .i64 (L (m * 5 + 1)).perms, .int .i64 (L (m * 5 + 1)).type, .bool (L (m * 5 + 2)).tag, .int .i64 (L (m * 5 + 2)).base, .int .i64 (L (m * 5 + 2)).top, .int .i64 (L (m * 5 + 2)).at_, .int .i64 (L (m * 5 + 2)).perms, .int .i64 (L (m * 5 + 2)).type, .bool (L (m * 5 + 3)).tag, .int .i64 (L (m * 5 + 3)).base, .int .i64 (L (m * 5 + 3)).top, .int .i64 (L (m * 5 + 3)).at_, .int .i64 (L (m * 5 + 3)).perms, .int .i64 (L (m * 5 + 3)).type, .bool (L (m * 5 + 4)).tag, .int .i64 (L (m * 5 + 4)).base, .int .i64 (L (m * 5 + 4)).top, .int .i64 (L (m * 5 + 4)).at_, .int .i64 (L (m * 5 + 4)).perms, .int .i64 (L (m * 5 + 4)).type], .bool true]) ∧ Only (· = b) w' w'' ∧ w''.cell? ⟨b, 0, none⟩ = some (.slice (some ⟨g, 0, none⟩) m cap) ∧ w''.frozen? ⟨b, 0, none⟩ = false := fun w' h => pop_ b base g m cap L w' h (by omega)
            have hm1 : (0 : Int) < (m : Int) + 1 := by omega
            go_upto_region 12 with (first | (go_at_call 10; refine Calls.mono (hpop _ HS1.out) ?_; rintro e w3 ⟨rfl, ho3, hc3, hf3⟩) | (with_reducible refine wpList_store_mid rfl 32 (.tmp 8) (.tmp 41) rfl w3.heap.size 0 _ rfl rfl ((there_newAt rfl (by kernel_rfl)).2) (by kernel_rfl) (rowArr_one L m) ?_))
            have hm0 : (0 : Int) ≤ (m : Int) := by omega
            have hm2 : (m : Int) < (m : Int) + 1 := by omega
            have hcapa : m + 1 ≤ capa := by
              rcases HA1.out.2 with ⟨h0, _⟩ | ⟨g', cap', cur, hv, _, _, hn, _⟩
              · cases h0
              · cases hv; exact hn
            have hcapi : (m : Int) ≤ (capa : Int) := by omega
            have hm5 : ((m * 5 : Nat) : Int) = 5 * (m : Int) := by omega
            have hS4 := Stk.popped HS1.out ho3 hc3 hf3
            have hE4 := HS1.out.extOf HE1.out hwbase ho3.tch
            have hA4 := ownsRow_only HA1.out ho3 (fun g' h e => by simp only [Value.ownBlock, Option.some.injEq] at h; omega)
            refine wp_gen (fun W => Hid (Ext w3 W) ∧ Hid (Row W w3.heap.size 0 (rowCells L m))) ⟨hid (Ext.only (Ext.alloc (Ext.refl w3) _) (Only.setCells (S := fun i => i = w3.heap.size) (.inl rfl) _ _ (Only.refl _ _)) (by rintro i rfl; exact Nat.le_refl _)), hid ?hr⟩ ?_
            case hr => exact Row.put (Row.new w3 _ _) rfl
            rintro W2 ⟨hx4, hR5⟩
            have HS2 := hid (hS4.ext hx4.out)
            have HA5 := hid (ownsRow_ext hA4 hx4.out)
            have HE2 := hid (hE4.trans hx4.out)
            have hsz0 : base2 ≤ W2.heap.size := by have := ho3.size; have := hx4.out.size; omega
            clear HS1 HA1 HE1 ho3 hc3 hf3 hS4 hE4 hA4 hx4 hR1 hcw hbo hpop
            generalize w3.heap.size = bt at hR5 ⊢
            go_upto_region 15 with (fail)
            have hRa := hid (ownsRow_row HA5.out (show m < m + 1 by omega))
            refine wp_region_step (.rd 0 (.rd 1 (.rd 2 (.rd 3 (.rd 4 (.rd 5 (.rd 6 (.rd 7 .done)))))))) (by kernel_rfl) (by kernel_rfl) (fun _ _ d _ _ h => by cases d <;> exact h) (by simp only [Ord.map, nthOp, List.append]; rfl) ?_
            intro d0
            repeat' (first
              | (refine step_read (by rfl) (fun K hK => ?_); refine quiet_loadC 32 (.tmp 8) rfl bt 0 rfl (rowCells L m) _ (fun w' hw' => ((hR5.out.ext (Ext.grow (Ext.refl _) d0)).ext (Grown.ext hw')).range) Try.underlying32 rfl (by rw [rowCells_length]; kernel_rfl) ?_; refine hK _ ?_; clear hK K; simp only [Act.put, List.setIfInBounds_toArray, List.set_cons_zero, List.set_cons_succ])
              | (refine step_read (by rfl) (fun K hK => ?_); refine quiet_loadC 32 (.tmp 63) rfl ga (m * 30) rfl (rowCells L m) _ (fun w' hw' => ((hRa.out.ext (Ext.grow (Ext.refl _) d0)).ext (Grown.ext hw')).range) Try.underlying32 rfl (by rw [rowCells_length]; kernel_rfl) ?_; refine hK _ ?_; clear hK K; simp only [Act.put, List.setIfInBounds_toArray, List.set_cons_zero, List.set_cons_succ])
              | (refine step_read (by rfl) (fun K hK => ?_); refine quiet_run (.bool false) (frame_ne (fun i => L (m * 5 + i)) _ (.tmp 58) (.tmp 64) 32 _ rfl rfl rfl) ?_; refine hK _ ?_; clear hK K; simp only [Act.put, List.setIfInBounds_toArray, List.set_cons_zero, List.set_cons_succ])
              | (refine step_read (by rfl) (fun K hK => ?_); go_big_quiet_op; refine hK _ ?_; clear hK K))
            refine step_nil ?_
            replace HS2 := hid (HS2.out.ext (Ext.grow (Ext.refl _) d0))
            have HA2 := hid (ownsRow_shrink (ownsRow_ext HA5.out (Ext.grow (Ext.refl _) d0)))
            replace HE2 := hid (HE2.out.trans (Ext.grow (Ext.refl _) d0))
            have hsz : base2 ≤ (Go.Proofs.Ytfpfmjcajdknoaa.grow W2 d0).heap.size := by rw [grow_size]; omega
            clear HA5 hR5 hRa
            generalize Go.Proofs.Ytfpfmjcajdknoaa.grow W2 d0 = W3 at HS2 HA2 HE2 hsz ⊢
            go_wp2_with (first | (go_at_call 17; refine (many_ b base _ _ _ _ HS2.out).mono ?_; rintro e w9 ⟨rfl, rfl⟩) | (go_at_call 12; refine (capsS_ b base _ _ _ _ HS2.out (by omega)).mono ?_; rintro e w9 ⟨Ac, cc, rfl, hrd9, hx9⟩))
            go_roundw
            case rel => exact ⟨k + 1, m, _, L, hk0, by go_num, by omega, hid (HS2.out.ext hx9), hid (ownsRow_ext HA2.out hx9), hid (HE2.out.trans hx9), Nat.le_trans hsz hx9.size⟩
            case measure => simp [intOf]; omega
        · rcases Nat.lt_or_ge n 16 with hn16 | hn16
          · cases hrt : allR 5 z.F with
            | false =>
              obtain ⟨Aa, ca, rfl⟩ : ∃ A c, u5 = .slice A n c := by
                rcases HA1.out.2 with ⟨h, h2⟩ | ⟨g, c, _, h, _⟩
                · exact ⟨none, 0, by rw [h, h2]⟩
                · exact ⟨some ⟨g, 0, none⟩, c, h⟩
              have hn17 : (n : Int) < 16 := by omega
              have hn5 : ((n * 5 : Nat) : Int) = 5 * (n : Int) := by omega
              have hRF := hid hR1.out.rng.frame
              rw [Nat.zero_add] at hRF
              have hright : ∀ w', Calls Try.prog 21 #[.agg (capsList 5 z.F).toArray] w' fun e w'' => e = .returned (.bool false) ∧ Ext w' w'' := fun w' => by rw [← hrt]; exact right_ z.F w'
              have hpush : ∀ w', Stk w' b base v n L → Calls Try.prog 15 #[.pointer (some ⟨b, 0, none⟩), .agg (capsList 5 z.F).toArray] w' fun e w'' => e = .returned (.bool false) ∧ Ext w' w'' := fun w' h => push_no b base n v L z.F w' h hn16 hrt
              go_upto_region 19 with (first | (with_reducible refine wpList_load_midG rfl 32 (.tmp 75) rfl bo 1 rfl (capsList 5 z.F) _ (Rng.range hRF.out) Try.underlying32 rfl (by rw [capsList_length]; kernel_rfl) ?_) | (go_at_call 21; refine Calls.mono (hright _) ?_; rintro e w2 ⟨rfl, hx2⟩))
              have hS1 := hid (HS1.out.ext hx2)
              have hA1 := hid (ownsRow_ext HA1.out hx2)
              have hE1 := hid (HE1.out.trans hx2)
              have hbs2 : base2 ≤ w2.heap.size := Nat.le_trans hbs hx2.size
              replace hRF := hid (hRF.out.ext hx2)
              clear HS1 HA1 HE1 hx2 hright hR1 hcw
              go_upto_region 21 with (first | (with_reducible refine wpList_load_mid rfl 32 (.tmp 80) rfl bo 1 rfl (capsList 5 z.F) _ (Rng.range hRF.out) Try.underlying32 rfl (by rw [capsList_length]; kernel_rfl) ?_) | (go_at_call 15; refine Calls.mono (hpush _ hS1.out) ?_; rintro e w3 ⟨rfl, hx3⟩))
              have HS2 := hid (hS1.out.ext hx3)
              have HA2 := hid (ownsRow_ext hA1.out hx3)
              have HE2 := hid (hE1.out.trans hx3)
              have hsz := Nat.le_trans hbs2 hx3.size
              clear hS1 hA1 hE1 hx3 hpush hRF
              go_wp2_with (first | (go_at_call 17; refine (many_ b base _ _ _ _ HS2.out).mono ?_; rintro e w9 ⟨rfl, rfl⟩) | (go_at_call 12; refine (capsS_ b base _ _ _ _ HS2.out (by omega)).mono ?_; rintro e w9 ⟨Ac, cc, rfl, hrd9, hx9⟩))
              go_roundw
              case rel => exact ⟨k + 1, n, v, L, hk0, by go_num, hn, hid (HS2.out.ext hx9), hid (ownsRow_ext HA2.out hx9), hid (HE2.out.trans hx9), Nat.le_trans hsz hx9.size⟩
              case measure => simp [intOf]; omega
            | true =>
              obtain ⟨Aa, ca, rfl⟩ : ∃ A c, u5 = .slice A n c := by
                rcases HA1.out.2 with ⟨h, h2⟩ | ⟨g, c, _, h, _⟩
                · exact ⟨none, 0, by rw [h, h2]⟩
                · exact ⟨some ⟨g, 0, none⟩, c, h⟩
              have hn17 : (n : Int) < 16 := by omega
              have hRF := hid hR1.out.rng.frame
              rw [Nat.zero_add] at hRF
              have hright : ∀ w', Calls Try.prog 21 #[.agg (capsList 5 z.F).toArray] w' fun e w'' => e = .returned (.bool true) ∧ Ext w' w'' := fun w' => by rw [← hrt]; exact right_ z.F w'
              have hpush : ∀ w', Stk w' b base v n L → Calls Try.prog 15 #[.pointer (some ⟨b, 0, none⟩), .agg (capsList 5 z.F).toArray] w' fun e w'' => ∃ v', e = .returned (.bool true) ∧ Stk w'' b base v' (n + 1) (appL L n z.F) ∧ Only (tch b v) w' w'' ∧ (∀ g, v'.ownBlock = some g → v.ownBlock = some g ∨ w'.heap.size ≤ g) := fun w' h => push_ b base n v L z.F w' h hn16 hrt
              go_upto_region 19 with (first | (with_reducible refine wpList_load_midG rfl 32 (.tmp 75) rfl bo 1 rfl (capsList 5 z.F) _ (Rng.range hRF.out) Try.underlying32 rfl (by rw [capsList_length]; kernel_rfl) ?_) | (go_at_call 21; refine Calls.mono (hright _) ?_; rintro e w2 ⟨rfl, hx2⟩))
              have hS1 := hid (HS1.out.ext hx2)
              have hA1 := hid (ownsRow_ext HA1.out hx2)
              have hE1 := hid (HE1.out.trans hx2)
              have hbs2 : base2 ≤ w2.heap.size := Nat.le_trans hbs hx2.size
              replace hRF := hid (hRF.out.ext hx2)
              clear HS1 HA1 HE1 hx2 hright hR1 hcw
              go_upto_region 21 with (first | (with_reducible refine wpList_load_mid rfl 32 (.tmp 80) rfl bo 1 rfl (capsList 5 z.F) _ (Rng.range hRF.out) Try.underlying32 rfl (by rw [capsList_length]; kernel_rfl) ?_) | (go_at_call 15; refine Calls.mono (hpush _ hS1.out) ?_; rintro e w3 ⟨v3, rfl, hs3, ho3, _⟩))
              have hap1 := owns_apart hA1.out hS1.out.2.2.2.1 (show (32 : TypeId) ≠ 54 by decide)
              have hgb1 : ∀ g, (Value.slice Aa n ca).ownBlock = some g → ¬ tch b v g := fun g h e => by
                have h1 := (hA1.out.lt g h).1
                rcases e with e | e
                · omega
                · exact hap1 g h e
              have hbase2 : base2 ≤ w3.heap.size := Nat.le_trans hbs2 ho3.size
              have hTB : ¬ tch b v bo := by
                rintro (h | h)
                · omega
                · exact HVB.out h
              have hA3 := hid (ownsRow_only hA1.out ho3 hgb1)
              have hE3 := hid (hS1.out.extOf hE1.out hwbase ho3)
              have hRF3 := hid (hRF.out.only ho3 hTB)
              have hS3 := hid hs3
              have hb3 : b < base2 := hb1
              clear hS1 hA1 hE1 hRF ho3 hs3 hpush hap1 hgb1
              obtain ⟨i0, z0, hi0, hz0, hz1, hz2, hz3⟩ := frame_info2
              have HI0 := hid hi0
              have HZ0 := hid hz0
              clear hi0 hz0
              go_upto_region 23 with (first | (with_reducible refine wpList_load_mid rfl 32 (.tmp 87) rfl bo 1 rfl (capsList 5 z.F) _ (Rng.range hRF3.out) Try.underlying32 rfl (by rw [capsList_length]; kernel_rfl) ?_) | (refine wpList_build1 rfl 44 32 (.tmp 88) rfl (capsList 5 z.F).toArray 30 rfl (by rw [capsArr_size]) (by omega) (by omega) Try.underlying44 (by kernel_rfl) (by kernel_rfl) ?_) | (at_builtin; refine wpList_append_own _ rfl _ _ 44 rfl base2 32 i0 _ 30 240 Try.underlying44 HI0.out HZ0.out hz2 hz3 hz1 (by decide) _ _ _ rfl (ownsRow_ext hA3.out (Ext.alloc (Ext.refl w3) _)) ⟨w3.heap.size, 0, none⟩ 1 1 (capsList 5 z.F) rfl (by rw [capsList_length]) ?c1 (capsList_one _ _) ?c3 ?c4 ?c5 ?_))
              case c1 => exact fun j u hj => by rw [Addr.add_lit]; exact (Row.new w3 _ _).range j u hj
              case c3 => unfold maxLen; omega
              case c4 => omega
              case c5 => simp; omega
              intro v4 w4 hown4 hgrow _
              rw [appL_list] at hown4
              obtain ⟨g4, c4, rfl, _⟩ := hown4.form (by omega)
              have hO4 := grownOnly (S := fun i => (Value.slice Aa n ca).ownBlock = some i) hgrow fun g h => h
              have HS2 := hid (Stk.only (hS3.out.ext (Ext.alloc (Ext.refl w3) _)) hO4 (fun h => by have := (hA3.out.lt _ h).1; omega) (fun g h h2 => owns_apart hS3.out.2.2.2.1 hA3.out (show (54 : TypeId) ≠ 32 by decide) g h h2))
              have HA2 := hid hown4
              have HE2 := hid (Ext.only (Ext.alloc hE3.out _) hO4 (fun i h => by have := (hA3.out.lt i h).1; omega))
              have hsz : base2 ≤ w4.heap.size := Nat.le_trans hbase2 (by have := hO4.size; simp at this; omega)
              clear hO4 hgrow hS3 hA3 hE3 hRF3 hown4
              have hn6 : (((n + 1) * 5 : Nat) : Int) = 5 * ((n : Int) + 1) := by omega
              go_wp2_with (first | (go_at_call 17; refine (many_ b base _ _ _ _ HS2.out).mono ?_; rintro e w9 ⟨rfl, rfl⟩) | (go_at_call 12; refine (capsS_ b base _ _ _ _ HS2.out (by omega)).mono ?_; rintro e w9 ⟨Ac, cc, rfl, hrd9, hx9⟩))
              go_roundw
              case rel => exact ⟨k + 1, n + 1, _, _, hk0, by go_num, hn16, hid (HS2.out.ext hx9), hid (ownsRow_ext HA2.out hx9), hid (HE2.out.trans hx9), Nat.le_trans hsz hx9.size⟩
              case measure => simp [intOf]; omega
          · obtain rfl : n = 16 := by omega
            obtain ⟨Aa, ca, rfl⟩ : ∃ A c, u5 = .slice A 16 c := by
              rcases HA1.out.2 with ⟨h, h2⟩ | ⟨g, c, _, h, _⟩
              · exact ⟨none, 0, by omega⟩
              · exact ⟨some ⟨g, 0, none⟩, c, h⟩
            have hRF := hid hR1.out.rng.frame
            rw [Nat.zero_add] at hRF
            have hpush : ∀ w', Stk w' b base v 16 L → Calls Try.prog 15 #[.pointer (some ⟨b, 0, none⟩), .agg (capsList 5 z.F).toArray] w' fun e w'' => e = .returned (.bool false) ∧ Ext w' w'' := fun w' h => push_full b base v L z.F w' h
            go_upto_region 19 with (fail)
            have hS1 := HS1
            have hA1 := HA1
            have hE1 := HE1
            have hbs2 := hbs
            clear HS1 HA1 HE1 hR1 hcw
            go_upto_region 21 with (first | (with_reducible refine wpList_load_mid rfl 32 (.tmp 80) rfl bo 1 rfl (capsList 5 z.F) _ (Rng.range hRF.out) Try.underlying32 rfl (by rw [capsList_length]; kernel_rfl) ?_) | (go_at_call 15; refine Calls.mono (hpush _ hS1.out) ?_; rintro e w3 ⟨rfl, hx3⟩))
            have HS2 := hid (hS1.out.ext hx3)
            have HA2 := hid (ownsRow_ext hA1.out hx3)
            have HE2 := hid (hE1.out.trans hx3)
            have hsz := Nat.le_trans hbs2 hx3.size
            clear hS1 hA1 hE1 hx3 hpush hRF
            go_wp2_with (first | (go_at_call 17; refine (many_ b base _ _ _ _ HS2.out).mono ?_; rintro e w9 ⟨rfl, rfl⟩) | (go_at_call 12; refine (capsS_ b base _ _ _ _ HS2.out (by omega)).mono ?_; rintro e w9 ⟨Ac, cc, rfl, hrd9, hx9⟩))
            go_roundw
            case rel => exact ⟨k + 1, 16, v, L, hk0, by go_num, by omega, hid (HS2.out.ext hx9), hid (ownsRow_ext HA2.out hx9), hid (HE2.out.trans hx9), Nat.le_trans hsz hx9.size⟩
            case measure => simp [intOf]; omega
      · obtain rfl : k = zs0.length := by omega
        have hk1 : ¬ (zs0.length : Int) < (zs0.length : Int) := by omega
        go_wp2
        go_ret
        exact ⟨rfl, HE.out⟩
  · have hli : (300 : Int) < (zs0.length : Int) := by omega
    clear hs0 wz0
    go_enter Try.func4, Try.ntmps4
    go_wp2_with (first | (go_at_call 7; refine Calls.mono (head_ _) ?_; rintro e wh ⟨rfl, hxh⟩) | (go_at_call 8; refine (new_ _ Z0).mono ?_; rintro e w1 ⟨b, rfl, hwb, hx1, hs1⟩))
    go_ret
    exact ⟨rfl, hxh.trans hx1⟩
end framesStack

end Go.Proofs.Ytfpfmjcajdknoaa
