/- The walk of FramesFull. -/
import Derived.Test.YtfpfmjcajdknoaaFraP
namespace Go.Proofs.Ytfpfmjcajdknoaa
set_option linter.unusedSimpArgs false
set_option linter.unusedVariables false
open Go.RowKit

open Go.Deep Go.RowKit
theorem wfu8 {n : Int} (h : (Lit.int .u8 n).wf = true) : 0 ≤ n ∧ n ≤ 255 := by
  simpa [Lit.wf, IntKind.min, IntKind.max, IntKind.signed, IntKind.bits] using h
/-- Frames, all the same. -/
def repF (F : Nat → Cap) : Nat → Cap := fun i => F (i % 5)
theorem repF_app (F : Nat → Cap) (n : Nat) : ∀ i, i < (n + 1) * 5 → appL (repF F) n F i = repF F i := fun i hi => by
  unfold appL repF
  by_cases h : i < n * 5
  · rw [if_pos h]
  · rw [if_neg h, show i - n * 5 = i % 5 by omega]
theorem repF_row (F : Nat → Cap) (m : Nat) : rowCells (repF F) m = capsList 5 F := capsList_congr fun i hi => by
  show F ((m * 5 + i) % 5) = F i
  rw [show (m * 5 + i) % 5 = i by omega]
namespace framesFull
set_option maxRecDepth 100000 in
set_option maxHeartbeats 8000000 in
theorem walk (F0 : Nat → Cap) (a1 : Int) (a2 : Int) (w : World) (wF0 : ∀ i, i < 5 → wfC (F0 i)) (w1 : (Lit.int .u8 a1).wf = true) (w2 : (Lit.int .u8 a2).wf = true) :
    Calls Try.prog 6 #[.agg #[.bool (F0 0).tag, .int .i64 (F0 0).base, .int .i64 (F0 0).top, .int .i64 (F0 0).at_, .int .i64 (F0 0).perms, .int .i64 (F0 0).type, .bool (F0 1).tag, .int .i64 (F0 1).base, .int .i64 (F0 1).top, .int .i64 (F0 1).at_, .int .i64 (F0 1).perms, .int .i64 (F0 1).type, .bool (F0 2).tag, .int .i64 (F0 2).base, .int .i64 (F0 2).top, .int .i64 (F0 2).at_, .int .i64 (F0 2).perms, .int .i64 (F0 2).type, .bool (F0 3).tag, .int .i64 (F0 3).base, .int .i64 (F0 3).top, .int .i64 (F0 3).at_, .int .i64 (F0 3).perms, .int .i64 (F0 3).type, .bool (F0 4).tag, .int .i64 (F0 4).base, .int .i64 (F0 4).top, .int .i64 (F0 4).at_, .int .i64 (F0 4).perms, .int .i64 (F0 4).type], .int .u8 a1, .int .u8 a2] w fun e w' => e = .returned (.bool true) ∧ Ext w w' := by
  have hn1 := wfu8 w1
  have hn2 := wfu8 w2
  clear w1 w2
  obtain ⟨K, hK⟩ : ∃ K : Nat, a1.tmod 40 = K := ⟨(a1.tmod 40).toNat, by rw [Int.tmod_eq_emod_of_nonneg (by omega)]; omega⟩
  obtain ⟨K2, hK2⟩ : ∃ K : Nat, a2.tmod 40 = K := ⟨(a2.tmod 40).toNat, by rw [Int.tmod_eq_emod_of_nonneg (by omega)]; omega⟩
  have hK40 : K < 40 := by rw [Int.tmod_eq_emod_of_nonneg (by omega)] at hK; omega
  have hK240 : K2 < 40 := by rw [Int.tmod_eq_emod_of_nonneg (by omega)] at hK2; omega
  have hu1 : IntKind.u8.wrap (K : Int) = K := by simp [IntKind.wrap, IntKind.signed, IntKind.bits]; omega
  have hu2 : IntKind.u8.wrap (K2 : Int) = K2 := by simp [IntKind.wrap, IntKind.signed, IntKind.bits]; omega
  have HK := hid hK
  have HK2 := hid hK2
  have HU1 := hid hu1
  have HU2 := hid hu2
  clear hK hK2 hu1 hu2
  cases hrt : allR 5 F0 with
  | false =>
    have HRT := hid hrt
    clear hrt
    go_enter Try.func6, Try.ntmps6
    go_upto_region 2 with (go_at_call 7; refine Calls.mono (head_ _) ?_; rintro e wh ⟨rfl, hxh⟩)
    have hR0 := (Row.new w #[.bool (F0 0).tag, .int .i64 (F0 0).base, .int .i64 (F0 0).top, .int .i64 (F0 0).at_, .int .i64 (F0 0).perms, .int .i64 (F0 0).type, .bool (F0 1).tag, .int .i64 (F0 1).base, .int .i64 (F0 1).top, .int .i64 (F0 1).at_, .int .i64 (F0 1).perms, .int .i64 (F0 1).type, .bool (F0 2).tag, .int .i64 (F0 2).base, .int .i64 (F0 2).top, .int .i64 (F0 2).at_, .int .i64 (F0 2).perms, .int .i64 (F0 2).type, .bool (F0 3).tag, .int .i64 (F0 3).base, .int .i64 (F0 3).top, .int .i64 (F0 3).at_, .int .i64 (F0 3).perms, .int .i64 (F0 3).type, .bool (F0 4).tag, .int .i64 (F0 4).base, .int .i64 (F0 4).top, .int .i64 (F0 4).at_, .int .i64 (F0 4).perms, .int .i64 (F0 4).type] 32).ext hxh
    have hxw : Ext w wh := Ext.trans (Ext.alloc (Ext.refl w) _) hxh
    clear hxh
    go_upto_region 3 with (go_at_call 8; refine (new_ _ (repF F0)).mono ?_; rintro e w1 ⟨b, rfl, hwb, hx1, hs1⟩)
    have hR1 := hid (hR0.ext hx1)
    have hE1 := hid (hxw.trans hx1)
    clear hR0 hx1 hxw hs1
    go_wp2_with (first | (with_reducible refine wpList_load_midG rfl 32 (.tmp 3) rfl w.heap.size 0 rfl [.bool (F0 0).tag, .int .i64 (F0 0).base, .int .i64 (F0 0).top, .int .i64 (F0 0).at_, .int .i64 (F0 0).perms, .int .i64 (F0 0).type, .bool (F0 1).tag, .int .i64 (F0 1).base, .int .i64 (F0 1).top, .int .i64 (F0 1).at_, .int .i64 (F0 1).perms, .int .i64 (F0 1).type, .bool (F0 2).tag, .int .i64 (F0 2).base, .int .i64 (F0 2).top, .int .i64 (F0 2).at_, .int .i64 (F0 2).perms, .int .i64 (F0 2).type, .bool (F0 3).tag, .int .i64 (F0 3).base, .int .i64 (F0 3).top, .int .i64 (F0 3).at_, .int .i64 (F0 3).perms, .int .i64 (F0 3).type, .bool (F0 4).tag, .int .i64 (F0 4).base, .int .i64 (F0 4).top, .int .i64 (F0 4).at_, .int .i64 (F0 4).perms, .int .i64 (F0 4).type] _ (hR1.out.range) Try.underlying32 rfl (by kernel_rfl) ?_) | (go_at_call 21; refine (right_ F0 _).mono ?_; rw [HRT.out]; rintro e w2 ⟨rfl, hx2⟩))
    go_ret
    exact ⟨rfl, hE1.out.trans hx2⟩
  | true =>
    have HRT := hid hrt
    clear hrt
    go_enter Try.func6, Try.ntmps6
    go_upto_region 2 with (go_at_call 7; refine Calls.mono (head_ _) ?_; rintro e wh ⟨rfl, hxh⟩)
    have hR0 := (Row.new w #[.bool (F0 0).tag, .int .i64 (F0 0).base, .int .i64 (F0 0).top, .int .i64 (F0 0).at_, .int .i64 (F0 0).perms, .int .i64 (F0 0).type, .bool (F0 1).tag, .int .i64 (F0 1).base, .int .i64 (F0 1).top, .int .i64 (F0 1).at_, .int .i64 (F0 1).perms, .int .i64 (F0 1).type, .bool (F0 2).tag, .int .i64 (F0 2).base, .int .i64 (F0 2).top, .int .i64 (F0 2).at_, .int .i64 (F0 2).perms, .int .i64 (F0 2).type, .bool (F0 3).tag, .int .i64 (F0 3).base, .int .i64 (F0 3).top, .int .i64 (F0 3).at_, .int .i64 (F0 3).perms, .int .i64 (F0 3).type, .bool (F0 4).tag, .int .i64 (F0 4).base, .int .i64 (F0 4).top, .int .i64 (F0 4).at_, .int .i64 (F0 4).perms, .int .i64 (F0 4).type] 32).ext hxh
    have hxw : Ext w wh := Ext.trans (Ext.alloc (Ext.refl w) _) hxh
    have hfb : w.heap.size < wh.heap.size := hR0.lt
    clear hxh
    go_upto_region 3 with (go_at_call 8; refine (new_ _ (repF F0)).mono ?_; rintro e w1 ⟨b, rfl, hwb, hx1, hs1⟩)
    have hR1 := hid (hR0.ext hx1)
    have hE1 := hid (hxw.trans hx1)
    have hs1 := hid hs1
    clear hR0 hx1
    have hwbase : w.heap.size ≤ wh.heap.size := by omega
    clear hxw
    generalize wh.heap.size = base at hs1 hwb hfb hwbase
    obtain ⟨bf, hbf⟩ : ∃ x, w.heap.size = x := ⟨_, rfl⟩
    rw [hbf] at hR1 hfb ⊢
    go_upto_region 5 with (first | (with_reducible refine wpList_load_midG rfl 32 (.tmp 3) rfl bf 0 rfl [.bool (F0 0).tag, .int .i64 (F0 0).base, .int .i64 (F0 0).top, .int .i64 (F0 0).at_, .int .i64 (F0 0).perms, .int .i64 (F0 0).type, .bool (F0 1).tag, .int .i64 (F0 1).base, .int .i64 (F0 1).top, .int .i64 (F0 1).at_, .int .i64 (F0 1).perms, .int .i64 (F0 1).type, .bool (F0 2).tag, .int .i64 (F0 2).base, .int .i64 (F0 2).top, .int .i64 (F0 2).at_, .int .i64 (F0 2).perms, .int .i64 (F0 2).type, .bool (F0 3).tag, .int .i64 (F0 3).base, .int .i64 (F0 3).top, .int .i64 (F0 3).at_, .int .i64 (F0 3).perms, .int .i64 (F0 3).type, .bool (F0 4).tag, .int .i64 (F0 4).base, .int .i64 (F0 4).top, .int .i64 (F0 4).at_, .int .i64 (F0 4).perms, .int .i64 (F0 4).type] _ (hR1.out.range) Try.underlying32 rfl (by kernel_rfl) ?_) | (go_at_call 21; refine (right_ F0 _).mono ?_; rw [HRT.out]; rintro e w2 ⟨rfl, hx2⟩))
    have hR2 := hid (hR1.out.ext hx2)
    have hE2 := hid (hE1.out.trans hx2)
    have hs2 := hid (hs1.out.ext hx2)
    clear hR1 hE1 hs1 hx2
    go_wp2
    go_loopw [9, 10] (fun c i wr => ∃ (k n : Nat) (v : Value), k ≤ K ∧ i = .int .i64 k ∧ c = .int .i64 n ∧ n ≤ 16 ∧ Hid (Stk wr b base v n (repF F0)) ∧ Hid (Row wr bf 0 [.bool (F0 0).tag, .int .i64 (F0 0).base, .int .i64 (F0 0).top, .int .i64 (F0 0).at_, .int .i64 (F0 0).perms, .int .i64 (F0 0).type, .bool (F0 1).tag, .int .i64 (F0 1).base, .int .i64 (F0 1).top, .int .i64 (F0 1).at_, .int .i64 (F0 1).perms, .int .i64 (F0 1).type, .bool (F0 2).tag, .int .i64 (F0 2).base, .int .i64 (F0 2).top, .int .i64 (F0 2).at_, .int .i64 (F0 2).perms, .int .i64 (F0 2).type, .bool (F0 3).tag, .int .i64 (F0 3).base, .int .i64 (F0 3).top, .int .i64 (F0 3).at_, .int .i64 (F0 3).perms, .int .i64 (F0 3).type, .bool (F0 4).tag, .int .i64 (F0 4).base, .int .i64 (F0 4).top, .int .i64 (F0 4).at_, .int .i64 (F0 4).perms, .int .i64 (F0 4).type]) ∧ Hid (Ext w wr)) (fun _ i _ => K - (intOf i).toNat)
    case atStart => exact ⟨0, 0, _, Nat.zero_le _, rfl, rfl, by omega, hs2, hR2, hE2⟩
    case round =>
      obtain ⟨k, n, v, hk, rfl, rfl, hn, HS, HR, HE⟩ := hrel
      by_cases hlt : k < K
      · have hk1 : (k : Int) < (K : Int) := by omega
        have hk0 : k ≤ K ∧ k + 1 ≤ K := ⟨by omega, by omega⟩
        by_cases hn16 : n < 16
        · have hn17 : (n : Int) < 16 := by omega
          have hn18 : ¬ (16 : Int) < (n : Int) + 1 := by omega
          have hK := HK.out
          have hu1 := HU1.out
          go_upto_region 11 with (first | (with_reducible refine wpList_load_midG rfl 32 (.tmp 3) rfl bf 0 rfl [.bool (F0 0).tag, .int .i64 (F0 0).base, .int .i64 (F0 0).top, .int .i64 (F0 0).at_, .int .i64 (F0 0).perms, .int .i64 (F0 0).type, .bool (F0 1).tag, .int .i64 (F0 1).base, .int .i64 (F0 1).top, .int .i64 (F0 1).at_, .int .i64 (F0 1).perms, .int .i64 (F0 1).type, .bool (F0 2).tag, .int .i64 (F0 2).base, .int .i64 (F0 2).top, .int .i64 (F0 2).at_, .int .i64 (F0 2).perms, .int .i64 (F0 2).type, .bool (F0 3).tag, .int .i64 (F0 3).base, .int .i64 (F0 3).top, .int .i64 (F0 3).at_, .int .i64 (F0 3).perms, .int .i64 (F0 3).type, .bool (F0 4).tag, .int .i64 (F0 4).base, .int .i64 (F0 4).top, .int .i64 (F0 4).at_, .int .i64 (F0 4).perms, .int .i64 (F0 4).type] _ (HR.out.range) Try.underlying32 rfl (by kernel_rfl) ?_) | (go_at_call 15; refine (push_ b base n v (repF F0) F0 _ HS.out hn16 HRT.out).mono ?_; rintro e w3 ⟨v3, rfl, hs3, ho3, hn3⟩))
          have hE3 := hid (HS.out.extOf HE.out (by rw [hbf]; exact Nat.le_of_lt hfb) ho3)
          have hR3 := hid (HS.out.rowOf HR.out hfb ho3)
          have hS3 := hid (hs3.congr (repF_app F0 n))
          clear hs3 ho3 HS HR HE hn3 hK hu1
          go_wp2
          go_roundw
          case rel => exact ⟨k + 1, n + 1, v3, hk0.2, by go_num, by go_num, hn16, hS3, hR3, hE3⟩
          case measure => simp [intOf]; omega
        · obtain rfl : n = 16 := by omega
          have hK := HK.out
          have hu1 := HU1.out
          go_upto_region 11 with (first | (with_reducible refine wpList_load_midG rfl 32 (.tmp 3) rfl bf 0 rfl [.bool (F0 0).tag, .int .i64 (F0 0).base, .int .i64 (F0 0).top, .int .i64 (F0 0).at_, .int .i64 (F0 0).perms, .int .i64 (F0 0).type, .bool (F0 1).tag, .int .i64 (F0 1).base, .int .i64 (F0 1).top, .int .i64 (F0 1).at_, .int .i64 (F0 1).perms, .int .i64 (F0 1).type, .bool (F0 2).tag, .int .i64 (F0 2).base, .int .i64 (F0 2).top, .int .i64 (F0 2).at_, .int .i64 (F0 2).perms, .int .i64 (F0 2).type, .bool (F0 3).tag, .int .i64 (F0 3).base, .int .i64 (F0 3).top, .int .i64 (F0 3).at_, .int .i64 (F0 3).perms, .int .i64 (F0 3).type, .bool (F0 4).tag, .int .i64 (F0 4).base, .int .i64 (F0 4).top, .int .i64 (F0 4).at_, .int .i64 (F0 4).perms, .int .i64 (F0 4).type] _ (HR.out.range) Try.underlying32 rfl (by kernel_rfl) ?_) | (go_at_call 15; refine (push_full b base v (repF F0) F0 _ HS.out).mono ?_; rintro e w3 ⟨rfl, hx3⟩))
          have hE3 := hid (HE.out.trans hx3)
          have hR3 := hid (HR.out.ext hx3)
          have hS3 := hid (HS.out.ext hx3)
          clear HS HR HE hx3 hK hu1
          go_wp2
          go_roundw
          case rel => exact ⟨k + 1, 16, v, hk0.2, by go_num, rfl, by omega, hS3, hR3, hE3⟩
          case measure => simp [intOf]; omega
      · have hk1 : ¬ (k : Int) < (K : Int) := by omega
        clear hs2 hR2 hE2
        have hK := HK.out
        have hu1 := HU1.out
        go_upto_region 12 with (fail)
        clear hK hu1 hk1 hlt hk
        go_wp2
        go_loopw [9, 11] (fun c i wr => ∃ (k n : Nat) (v : Value), k ≤ K2 ∧ i = .int .i64 k ∧ c = .int .i64 n ∧ n ≤ 16 ∧ Hid (Stk wr b base v n (repF F0)) ∧ Hid (Row wr bf 0 [.bool (F0 0).tag, .int .i64 (F0 0).base, .int .i64 (F0 0).top, .int .i64 (F0 0).at_, .int .i64 (F0 0).perms, .int .i64 (F0 0).type, .bool (F0 1).tag, .int .i64 (F0 1).base, .int .i64 (F0 1).top, .int .i64 (F0 1).at_, .int .i64 (F0 1).perms, .int .i64 (F0 1).type, .bool (F0 2).tag, .int .i64 (F0 2).base, .int .i64 (F0 2).top, .int .i64 (F0 2).at_, .int .i64 (F0 2).perms, .int .i64 (F0 2).type, .bool (F0 3).tag, .int .i64 (F0 3).base, .int .i64 (F0 3).top, .int .i64 (F0 3).at_, .int .i64 (F0 3).perms, .int .i64 (F0 3).type, .bool (F0 4).tag, .int .i64 (F0 4).base, .int .i64 (F0 4).top, .int .i64 (F0 4).at_, .int .i64 (F0 4).perms, .int .i64 (F0 4).type]) ∧ Hid (Ext w wr)) (fun _ i _ => K2 - (intOf i).toNat)
        case atStart => exact ⟨0, n, v, Nat.zero_le _, rfl, rfl, hn, HS, HR, HE⟩
        case round =>
          clear HS HR HE hn
          obtain ⟨k, n, v, hk, rfl, rfl, hn, HS, HR, HE⟩ := hrel
          by_cases hlt : k < K2
          · have hk1 : (k : Int) < (K2 : Int) := by omega
            have hk0 : k + 1 ≤ K2 := by omega
            have hK2 := HK2.out
            have hu2 := HU2.out
            rcases n with _ | m
            · go_upto_region 16 with (first | (go_at_call 10; refine (pop0_ b base _ (repF F0) _ HS.out).mono ?_; rintro e w3 ⟨rfl, hx3⟩) | (with_reducible refine wpList_store_mid rfl 32 (.tmp 12) (.tmp 54) rfl w3.heap.size 0 #[.bool false, .int .i64 0, .int .i64 0, .int .i64 0, .int .i64 0, .int .i64 0, .bool false, .int .i64 0, .int .i64 0, .int .i64 0, .int .i64 0, .int .i64 0, .bool false, .int .i64 0, .int .i64 0, .int .i64 0, .int .i64 0, .int .i64 0, .bool false, .int .i64 0, .int .i64 0, .int .i64 0, .int .i64 0, .int .i64 0, .bool false, .int .i64 0, .int .i64 0, .int .i64 0, .int .i64 0, .int .i64 0] rfl rfl (there_newAt rfl (by kernel_rfl)).2 (by kernel_rfl) (by simp [Value.oneCell']) ?_))
              clear hK2 hu2
              refine wp_gen (fun W => Hid (Ext w3 W)) (hid (Ext.only (Ext.alloc (Ext.refl w3) _) (Only.setCells (S := fun i => i = w3.heap.size) (.inl rfl) _ _ (Only.refl _ _)) (by rintro i rfl; exact Nat.le_refl _))) ?_
              rintro w4 hx4
              have hx5 := hid (hx3.trans hx4.out)
              have hS3 := hid (HS.out.ext hx5.out)
              have hR3 := hid (HR.out.ext hx5.out)
              have hE3 := hid (HE.out.trans hx5.out)
              clear HS HR HE hx3 hx4 hx5
              go_wp2
              go_roundw
              case rel => exact ⟨k + 1, 0, v, hk0, by go_num, by go_num, by omega, hS3, hR3, hE3⟩
              case measure => simp [intOf]; omega
            · obtain ⟨g, cap, rfl, hgb, _⟩ := HS.out.2.2.2.1.form (by omega)
              have hpop : ∀ w', Stk w' b base (.slice (some ⟨g, 0, none⟩) (m + 1) cap) (m + 1) (repF F0) → Calls Try.prog 10 #[.pointer (some ⟨b, 0, none⟩)] w' fun e w'' => e = .returned (.tuple #[.agg #[.bool (F0 0).tag, .int .i64 (F0 0).base, .int .i64 (F0 0).top, .int .i64 (F0 0).at_, .int .i64 (F0 0).perms, .int .i64 (F0 0).type, .bool (F0 1).tag, .int .i64 (F0 1).base, .int .i64 (F0 1).top, .int .i64 (F0 1).at_, .int .i64 (F0 1).perms, .int .i64 (F0 1).type, .bool (F0 2).tag, .int .i64 (F0 2).base, .int .i64 (F0 2).top, .int .i64 (F0 2).at_, .int .i64 (F0 2).perms, .int .i64 (F0 2).type, .bool (F0 3).tag, .int .i64 (F0 3).base, .int .i64 (F0 3).top, .int .i64 (F0 3).at_, .int .i64 (F0 3).perms, .int .i64 (F0 3).type, .bool (F0 4).tag, .int .i64 (F0 4).base, .int .i64 (F0 4).top, .int .i64 (F0 4).at_, .int .i64 (F0 4).perms, .int .i64 (F0 4).type], .bool true]) ∧ Only (· = b) w' w'' ∧ w''.cell? ⟨b, 0, none⟩ = some (.slice (some ⟨g, 0, none⟩) m cap) ∧ w''.frozen? ⟨b, 0, none⟩ = false := fun w' h => by
                refine (pop_ b base g m cap (repF F0) w' h (by omega)).mono ?_
                rintro e w'' ⟨rfl, h⟩
                exact ⟨congrArg (fun l : List Value => Ending.returned (Value.tuple #[Value.agg l.toArray, Value.bool true])) (repF_row F0 m), h⟩
              have hm1 : (0 : Int) < (m : Int) + 1 := by omega
              go_upto_region 16 with (first | (go_at_call 10; refine Calls.mono (hpop _ HS.out) ?_; rintro e w3 ⟨rfl, ho3, hc3, hf3⟩) | (with_reducible refine wpList_store_mid rfl 32 (.tmp 12) (.tmp 54) rfl w3.heap.size 0 #[.bool (F0 0).tag, .int .i64 (F0 0).base, .int .i64 (F0 0).top, .int .i64 (F0 0).at_, .int .i64 (F0 0).perms, .int .i64 (F0 0).type, .bool (F0 1).tag, .int .i64 (F0 1).base, .int .i64 (F0 1).top, .int .i64 (F0 1).at_, .int .i64 (F0 1).perms, .int .i64 (F0 1).type, .bool (F0 2).tag, .int .i64 (F0 2).base, .int .i64 (F0 2).top, .int .i64 (F0 2).at_, .int .i64 (F0 2).perms, .int .i64 (F0 2).type, .bool (F0 3).tag, .int .i64 (F0 3).base, .int .i64 (F0 3).top, .int .i64 (F0 3).at_, .int .i64 (F0 3).perms, .int .i64 (F0 3).type, .bool (F0 4).tag, .int .i64 (F0 4).base, .int .i64 (F0 4).top, .int .i64 (F0 4).at_, .int .i64 (F0 4).perms, .int .i64 (F0 4).type] rfl rfl (there_newAt rfl (by kernel_rfl)).2 (by kernel_rfl) (by simp [Value.oneCell']) ?_))
              clear hK2 hu2
              have hS4 := Stk.popped HS.out ho3 hc3 hf3
              have hE4 := HS.out.extOf HE.out (by rw [hbf]; exact Nat.le_of_lt hfb) ho3.tch
              have hR4 := HS.out.rowOf HR.out hfb ho3.tch
              refine wp_gen (fun W => Hid (Ext w3 W) ∧ Hid (Row W w3.heap.size 0 [.bool (F0 0).tag, .int .i64 (F0 0).base, .int .i64 (F0 0).top, .int .i64 (F0 0).at_, .int .i64 (F0 0).perms, .int .i64 (F0 0).type, .bool (F0 1).tag, .int .i64 (F0 1).base, .int .i64 (F0 1).top, .int .i64 (F0 1).at_, .int .i64 (F0 1).perms, .int .i64 (F0 1).type, .bool (F0 2).tag, .int .i64 (F0 2).base, .int .i64 (F0 2).top, .int .i64 (F0 2).at_, .int .i64 (F0 2).perms, .int .i64 (F0 2).type, .bool (F0 3).tag, .int .i64 (F0 3).base, .int .i64 (F0 3).top, .int .i64 (F0 3).at_, .int .i64 (F0 3).perms, .int .i64 (F0 3).type, .bool (F0 4).tag, .int .i64 (F0 4).base, .int .i64 (F0 4).top, .int .i64 (F0 4).at_, .int .i64 (F0 4).perms, .int .i64 (F0 4).type])) ⟨hid (Ext.only (Ext.alloc (Ext.refl w3) _) (Only.setCells (S := fun i => i = w3.heap.size) (.inl rfl) _ _ (Only.refl _ _)) (by rintro i rfl; exact Nat.le_refl _)), hid ?hr⟩ ?_
              case hr => exact Row.put (Row.new w3 _ _) rfl
              rintro w4 ⟨hx4, hR5⟩
              have hS3 := hid (hS4.ext hx4.out)
              have hR3 := hid (hR4.ext hx4.out)
              have hE3 := hid (hE4.trans hx4.out)
              clear HS HR HE hx4 hS4 hE4 hR4 hpop ho3 hc3 hf3
              generalize w3.heap.size = bt at hR5 ⊢
              go_upto_region 18 with (first | (with_reducible refine wpList_load_midG rfl 32 (.tmp 12) rfl bt 0 rfl [.bool (F0 0).tag, .int .i64 (F0 0).base, .int .i64 (F0 0).top, .int .i64 (F0 0).at_, .int .i64 (F0 0).perms, .int .i64 (F0 0).type, .bool (F0 1).tag, .int .i64 (F0 1).base, .int .i64 (F0 1).top, .int .i64 (F0 1).at_, .int .i64 (F0 1).perms, .int .i64 (F0 1).type, .bool (F0 2).tag, .int .i64 (F0 2).base, .int .i64 (F0 2).top, .int .i64 (F0 2).at_, .int .i64 (F0 2).perms, .int .i64 (F0 2).type, .bool (F0 3).tag, .int .i64 (F0 3).base, .int .i64 (F0 3).top, .int .i64 (F0 3).at_, .int .i64 (F0 3).perms, .int .i64 (F0 3).type, .bool (F0 4).tag, .int .i64 (F0 4).base, .int .i64 (F0 4).top, .int .i64 (F0 4).at_, .int .i64 (F0 4).perms, .int .i64 (F0 4).type] _ (hR5.out.range) Try.underlying32 rfl (by kernel_rfl) ?_) | (with_reducible refine wpList_load_midG rfl 32 (.tmp 3) rfl bf 0 rfl [.bool (F0 0).tag, .int .i64 (F0 0).base, .int .i64 (F0 0).top, .int .i64 (F0 0).at_, .int .i64 (F0 0).perms, .int .i64 (F0 0).type, .bool (F0 1).tag, .int .i64 (F0 1).base, .int .i64 (F0 1).top, .int .i64 (F0 1).at_, .int .i64 (F0 1).perms, .int .i64 (F0 1).type, .bool (F0 2).tag, .int .i64 (F0 2).base, .int .i64 (F0 2).top, .int .i64 (F0 2).at_, .int .i64 (F0 2).perms, .int .i64 (F0 2).type, .bool (F0 3).tag, .int .i64 (F0 3).base, .int .i64 (F0 3).top, .int .i64 (F0 3).at_, .int .i64 (F0 3).perms, .int .i64 (F0 3).type, .bool (F0 4).tag, .int .i64 (F0 4).base, .int .i64 (F0 4).top, .int .i64 (F0 4).at_, .int .i64 (F0 4).perms, .int .i64 (F0 4).type] _ (hR3.out.range) Try.underlying32 rfl (by kernel_rfl) ?_) | (refine wpList_runG rfl (.bool false) (frame_ne F0 _ (.tmp 63) (.tmp 64) 32 _ rfl rfl rfl) ?_))
              have hm2 : ¬ (m : Int) < 0 := by omega
              go_wp2
              go_roundw
              case rel => exact ⟨k + 1, m, _, hk0, by go_num, by go_num, by omega, hS3, hR3, hE3⟩
              case measure => simp [intOf]; omega
          · have hk1 : ¬ (k : Int) < (K2 : Int) := by omega
            have hK2 := HK2.out
            have hu2 := HU2.out
            by_cases hn16 : n < 16
            · have hn17 : (n : Int) < 16 := by omega
              go_upto_region 19 with (fail)
              clear hK2 hu2
              go_wp2_with (first | (go_at_call 17; refine (many_ b base _ _ (repF F0) _ HS.out).mono ?_; rintro e w9 ⟨rfl, rfl⟩) | (with_reducible refine wpList_load_midG rfl 32 (.tmp 3) rfl bf 0 rfl [.bool (F0 0).tag, .int .i64 (F0 0).base, .int .i64 (F0 0).top, .int .i64 (F0 0).at_, .int .i64 (F0 0).perms, .int .i64 (F0 0).type, .bool (F0 1).tag, .int .i64 (F0 1).base, .int .i64 (F0 1).top, .int .i64 (F0 1).at_, .int .i64 (F0 1).perms, .int .i64 (F0 1).type, .bool (F0 2).tag, .int .i64 (F0 2).base, .int .i64 (F0 2).top, .int .i64 (F0 2).at_, .int .i64 (F0 2).perms, .int .i64 (F0 2).type, .bool (F0 3).tag, .int .i64 (F0 3).base, .int .i64 (F0 3).top, .int .i64 (F0 3).at_, .int .i64 (F0 3).perms, .int .i64 (F0 3).type, .bool (F0 4).tag, .int .i64 (F0 4).base, .int .i64 (F0 4).top, .int .i64 (F0 4).at_, .int .i64 (F0 4).perms, .int .i64 (F0 4).type] _ (HR.out.range) Try.underlying32 rfl (by kernel_rfl) ?_) | (go_at_call 15; refine (push_ b base n v (repF F0) F0 _ HS.out hn16 HRT.out).mono ?_; rintro e w3 ⟨v3, rfl, hs3, ho3, hn3⟩))
              go_ret
              exact ⟨rfl, HS.out.extOf HE.out (by rw [hbf]; exact Nat.le_of_lt hfb) ho3⟩
            · obtain rfl : n = 16 := by omega
              go_upto_region 19 with (fail)
              clear hK2 hu2
              go_wp2_with (first | (go_at_call 17; refine (many_ b base _ _ (repF F0) _ HS.out).mono ?_; rintro e w9 ⟨rfl, rfl⟩) | (with_reducible refine wpList_load_midG rfl 32 (.tmp 3) rfl bf 0 rfl [.bool (F0 0).tag, .int .i64 (F0 0).base, .int .i64 (F0 0).top, .int .i64 (F0 0).at_, .int .i64 (F0 0).perms, .int .i64 (F0 0).type, .bool (F0 1).tag, .int .i64 (F0 1).base, .int .i64 (F0 1).top, .int .i64 (F0 1).at_, .int .i64 (F0 1).perms, .int .i64 (F0 1).type, .bool (F0 2).tag, .int .i64 (F0 2).base, .int .i64 (F0 2).top, .int .i64 (F0 2).at_, .int .i64 (F0 2).perms, .int .i64 (F0 2).type, .bool (F0 3).tag, .int .i64 (F0 3).base, .int .i64 (F0 3).top, .int .i64 (F0 3).at_, .int .i64 (F0 3).perms, .int .i64 (F0 3).type, .bool (F0 4).tag, .int .i64 (F0 4).base, .int .i64 (F0 4).top, .int .i64 (F0 4).at_, .int .i64 (F0 4).perms, .int .i64 (F0 4).type] _ (HR.out.range) Try.underlying32 rfl (by kernel_rfl) ?_) | (go_at_call 15; refine (push_full b base v (repF F0) F0 _ HS.out).mono ?_; rintro e w3 ⟨rfl, hx3⟩))
              go_ret
              exact ⟨rfl, HE.out.trans hx3⟩
end framesFull

end Go.Proofs.Ytfpfmjcajdknoaa
