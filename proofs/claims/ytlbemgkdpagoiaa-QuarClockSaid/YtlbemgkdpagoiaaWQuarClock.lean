/- The walk of QuarClock. -/
import Derived.Test.YtlbemgkdpagoiaaQuaQ
namespace Go.Proofs.Ytlbemgkdpagoiaa
set_option linter.unusedSimpArgs false
set_option linter.unusedVariables false
open Go.RowKit

open Go.Deep Go.RowKit
namespace quarClock
set_option maxRecDepth 100000 in
set_option maxHeartbeats 8000000 in
theorem walk (A0 : Option Addr) (cap0 : Nat) (zs0 : List Bool) (a1 : Int) (w : World) (wl0 : zs0.length ≤ maxLen) (hs0 : SlAt w A0 (zs0.map Value.bool)) (w1 : (Lit.int .u8 a1).wf = true) :
    Calls Try.prog 5 #[.slice A0 zs0.length cap0, .int .u8 a1] w fun e w' => e = .returned (.bool true) ∧ Ext w w' := by
  have ha : 0 ≤ a1 ∧ a1 ≤ 255 := by simpa [Lit.wf, IntKind.min, IntKind.max, IntKind.signed, IntKind.bits] using w1
  have hwa : wrap64 a1 = a1 := wrapN (by omega) (by omega)
  have HS := hid hs0
  clear hs0 w1
  unfold maxLen at wl0
  by_cases hlen : zs0.length ≤ 300
  · have hli : ¬ (300 : Int) < (zs0.length : Int) := by omega
    go_enter Try.func5, Try.ntmps5
    go_upto_region 2 with (go_at_call 8; refine Calls.mono (head_ _) ?_; rintro e wh ⟨rfl, hxh⟩)
    go_upto_region 3 with (go_at_call 9; refine (qnew_ 100 _ (by decide) (by decide)).mono ?_; rintro e w1 ⟨q, rfl, hwq, hxn, hq1⟩)
    go_upto_region 4 with (go_at_call 25; refine (new _).mono ?_; rintro e w2 ⟨c, rfl, hxc, hcq, hc2⟩)
    have HB0 : Hid (QC w w2 q wh.heap.size (.slice none 0 0) [] c 0) := hid ⟨hq1.ext hxc, hc2, ⟨by have := hq1.1; omega, fun h => by cases h⟩, (hxh.trans hxn).trans hxc, hxh.size, by have := hxh.size; have := hxn.size; omega⟩
    clear hxh hxn hq1 hxc hcq hc2 hwq
    generalize wh.heap.size = base at HB0
    go_wp2
    go_loopw [8, 9, 10, 11] (fun p b o i wr => ∃ (k : Nat) (P B O : Bool) (t : Int) (v : Value) (l : List Hd), k ≤ zs0.length ∧ i = .int .i64 k ∧ p = .bool P ∧ b = .bool B ∧ o = .bool O ∧ 0 ≤ t ∧ t ≤ k ∧ Hid (QClk a1 k t P B O l) ∧ Hid (QC w wr q base v l c t)) (fun _ _ _ i _ => zs0.length + 1 - (intOf i).toNat)
    case atStart => exact ⟨0, false, false, false, 0, _, [], Nat.zero_le _, rfl, rfl, rfl, rfl, by omega, by omega, hid (.inl ⟨rfl, rfl, rfl, rfl, by omega⟩), HB0⟩
    case round =>
      clear HB0
      obtain ⟨k, P, B, O, t, v, l, hk, rfl, rfl, rfl, rfl, ht0, htk, HK, HB⟩ := hrel
      have hkl : (k : Int) ≤ (zs0.length : Int) := by omega
      have ht9 : t ≤ 300 := by omega
      rcases HK.out with ⟨rfl, rfl, rfl, rfl, hka⟩ | ⟨T, rfl, rfl, rfl, rfl, hka, hT, htT⟩ | ⟨T, rfl, rfl, rfl, rfl, hka, hT, htT⟩ | ⟨rfl, rfl, rfl, rfl, hka⟩
      · clear HK
        by_cases hat : (k : Int) = a1
        · subst hat
          obtain ⟨T, hTe⟩ : ∃ T, T = t := ⟨_, rfl⟩
          have hT : 0 ≤ T ∧ T ≤ 10000 := by omega
          go_upto_region 14 with (first | (go_at_call 26; refine (qcNow w q base _ _ c t _ HB.out (by omega) (by omega)).mono ?_; rintro e w9 ⟨rfl, rfl⟩) | (rw [← hTe]; (go_at_call 14; refine (qcPut w q base _ [] c t _ HB.out goodL.nil (by decide) (Hd.mk 16 16 T) (okOne hT)).mono ?_; rintro e w4 ⟨v1, rfl, HB4⟩)))
          replace HB4 : Hid (QC w w4 q base v1 [(Hd.mk 16 16 T)] c t) := HB4
          clear HB
          go_upto_region 20 with (first | (go_at_call 26; refine (qcNow w q base _ _ c t _ HB4.out (by omega) (by omega)).mono ?_; rintro e w9 ⟨rfl, rfl⟩) | (go_at_call 12; refine (qcDue w q base _ [(Hd.mk 16 16 T)] c t _ HB4.out (goodOne hT) (by simp) t [] [(Hd.mk 16 16 T)] (tw1_no hT (by omega)) rfl).mono ?_; rintro e w5 ⟨A5, c5, v5, rfl, HB5⟩))
          clear HB4
          by_cases hlt : k < zs0.length
          · have hk0 : k + 1 ≤ zs0.length := by omega
            have hk2 : ¬ (k : Int) = (zs0.length : Int) := by omega
            have hk4 : (k : Int) < (zs0.length : Int) := by omega
            have hk5 : (0 : Int) ≤ (k : Int) := by omega
            obtain ⟨b, o, rfl, hb, hcell0⟩ := HS.out (by rw [List.length_map]; omega)
            have hcell : w5.cell? ⟨b, o + k, none⟩ = some (.bool zs0[k]) := by
              rw [HB5.out.2.2.2.1.cells b _ hb, hcell0 k (by rw [List.length_map]; omega), List.getElem_map]
            clear hcell0
            have hbw : b < w5.heap.size := Nat.lt_of_lt_of_le hb HB5.out.2.2.2.1.size
            cases hz : zs0[k] <;> rw [hz] at hcell <;> cases ho : oddB t
            · have hpar : t % 2 = 0 := by simp [oddB] at ho; omega
              go_wp2_with (go_at_call 28; refine (qcEnd w q base _ _ c t _ HB5.out (by omega) (by omega) t (endT_even ho) false ho).mono ?_; rintro e w7 ⟨rfl, HB7⟩)
              go_roundw
              case rel => exact ⟨k + 1, _, _, _, t, _, [(Hd.mk 16 16 T)], hk0, by go_num, rfl, rfl, rfl, by omega, by omega, hid (Or.inr (.inl ⟨T, rfl, rfl, rfl, rfl, by omega, hT, by omega⟩)), HB7⟩
              case measure => simp [intOf]; omega
            · have hpar : t % 2 = 1 := by simp [oddB] at ho; omega
              go_wp2_with (go_at_call 28; refine (qcEnd w q base _ _ c t _ HB5.out (by omega) (by omega) (t + 1) (endT_odd ho) true ho).mono ?_; rintro e w7 ⟨rfl, HB7⟩)
              go_roundw
              case rel => exact ⟨k + 1, _, _, _, (t + 1), _, [(Hd.mk 16 16 T)], hk0, by go_num, rfl, rfl, rfl, by omega, by omega, hid (Or.inr (.inl ⟨T, rfl, rfl, rfl, rfl, by omega, hT, by omega⟩)), HB7⟩
              case measure => simp [intOf]; omega
            · have hpar : t % 2 = 0 := by simp [oddB] at ho; omega
              go_wp2_with (go_at_call 27; refine (qcBegin w q base _ _ c t _ HB5.out (by omega) (by omega) (t + 1) (beginT_even ho) true (by rw [ho]; rfl)).mono ?_; rintro e w7 ⟨rfl, HB7⟩)
              go_roundw
              case rel => exact ⟨k + 1, _, _, _, (t + 1), _, [(Hd.mk 16 16 T)], hk0, by go_num, rfl, rfl, rfl, by omega, by omega, hid (Or.inr (.inr (.inl ⟨T, rfl, rfl, rfl, rfl, by omega, hT, by omega⟩))), HB7⟩
              case measure => simp [intOf]; omega
            · have hpar : t % 2 = 1 := by simp [oddB] at ho; omega
              go_wp2_with (go_at_call 27; refine (qcBegin w q base _ _ c t _ HB5.out (by omega) (by omega) t (beginT_odd ho) false (by rw [ho]; rfl)).mono ?_; rintro e w7 ⟨rfl, HB7⟩)
              go_roundw
              case rel => exact ⟨k + 1, _, _, _, t, _, [(Hd.mk 16 16 T)], hk0, by go_num, rfl, rfl, rfl, by omega, by omega, hid (Or.inr (.inl ⟨T, rfl, rfl, rfl, rfl, by omega, hT, by omega⟩)), HB7⟩
              case measure => simp [intOf]; omega
          · have hk2 : (k : Int) = (zs0.length : Int) := by omega
            go_wp2
            go_ret
            exact ⟨rfl, HB5.out.2.2.2.1⟩
        · go_upto_region 20 with (fail)
          by_cases hlt : k < zs0.length
          · have hk0 : k + 1 ≤ zs0.length := by omega
            have hk2 : ¬ (k : Int) = (zs0.length : Int) := by omega
            have hk4 : (k : Int) < (zs0.length : Int) := by omega
            have hk5 : (0 : Int) ≤ (k : Int) := by omega
            obtain ⟨b, o, rfl, hb, hcell0⟩ := HS.out (by rw [List.length_map]; omega)
            have hcell : wr.cell? ⟨b, o + k, none⟩ = some (.bool zs0[k]) := by
              rw [HB.out.2.2.2.1.cells b _ hb, hcell0 k (by rw [List.length_map]; omega), List.getElem_map]
            clear hcell0
            have hbw : b < wr.heap.size := Nat.lt_of_lt_of_le hb HB.out.2.2.2.1.size
            cases hz : zs0[k] <;> rw [hz] at hcell <;> cases ho : oddB t
            · have hpar : t % 2 = 0 := by simp [oddB] at ho; omega
              go_wp2_with (go_at_call 28; refine (qcEnd w q base _ _ c t _ HB.out (by omega) (by omega) t (endT_even ho) false ho).mono ?_; rintro e w7 ⟨rfl, HB7⟩)
              go_roundw
              case rel => exact ⟨k + 1, _, _, _, t, _, [], hk0, by go_num, rfl, rfl, rfl, by omega, by omega, hid (Or.inl ⟨rfl, rfl, rfl, rfl, by omega⟩), HB7⟩
              case measure => simp [intOf]; omega
            · have hpar : t % 2 = 1 := by simp [oddB] at ho; omega
              go_wp2_with (go_at_call 28; refine (qcEnd w q base _ _ c t _ HB.out (by omega) (by omega) (t + 1) (endT_odd ho) true ho).mono ?_; rintro e w7 ⟨rfl, HB7⟩)
              go_roundw
              case rel => exact ⟨k + 1, _, _, _, (t + 1), _, [], hk0, by go_num, rfl, rfl, rfl, by omega, by omega, hid (Or.inl ⟨rfl, rfl, rfl, rfl, by omega⟩), HB7⟩
              case measure => simp [intOf]; omega
            · have hpar : t % 2 = 0 := by simp [oddB] at ho; omega
              go_wp2_with (go_at_call 27; refine (qcBegin w q base _ _ c t _ HB.out (by omega) (by omega) (t + 1) (beginT_even ho) true (by rw [ho]; rfl)).mono ?_; rintro e w7 ⟨rfl, HB7⟩)
              go_roundw
              case rel => exact ⟨k + 1, _, _, _, (t + 1), _, [], hk0, by go_num, rfl, rfl, rfl, by omega, by omega, hid (Or.inl ⟨rfl, rfl, rfl, rfl, by omega⟩), HB7⟩
              case measure => simp [intOf]; omega
            · have hpar : t % 2 = 1 := by simp [oddB] at ho; omega
              go_wp2_with (go_at_call 27; refine (qcBegin w q base _ _ c t _ HB.out (by omega) (by omega) t (beginT_odd ho) false (by rw [ho]; rfl)).mono ?_; rintro e w7 ⟨rfl, HB7⟩)
              go_roundw
              case rel => exact ⟨k + 1, _, _, _, t, _, [], hk0, by go_num, rfl, rfl, rfl, by omega, by omega, hid (Or.inl ⟨rfl, rfl, rfl, rfl, by omega⟩), HB7⟩
              case measure => simp [intOf]; omega
          · have hk2 : (k : Int) = (zs0.length : Int) := by omega
            go_wp2
            go_ret
            exact ⟨rfl, HB.out.2.2.2.1⟩
      · clear HK
        have hat : ¬ (k : Int) = a1 := by omega
        go_upto_region 20 with (first | (go_at_call 26; refine (qcNow w q base _ _ c t _ HB.out (by omega) (by omega)).mono ?_; rintro e w9 ⟨rfl, rfl⟩) | (go_at_call 12; refine (qcDue w q base _ [(Hd.mk 16 16 T)] c t _ HB.out (goodOne hT) (by simp) t [] [(Hd.mk 16 16 T)] (tw1_no hT (by omega)) rfl).mono ?_; rintro e w5 ⟨A5, c5, v5, rfl, HB5⟩))
        clear HB
        by_cases hlt : k < zs0.length
        · have hk0 : k + 1 ≤ zs0.length := by omega
          have hk2 : ¬ (k : Int) = (zs0.length : Int) := by omega
          have hk4 : (k : Int) < (zs0.length : Int) := by omega
          have hk5 : (0 : Int) ≤ (k : Int) := by omega
          obtain ⟨b, o, rfl, hb, hcell0⟩ := HS.out (by rw [List.length_map]; omega)
          have hcell : w5.cell? ⟨b, o + k, none⟩ = some (.bool zs0[k]) := by
            rw [HB5.out.2.2.2.1.cells b _ hb, hcell0 k (by rw [List.length_map]; omega), List.getElem_map]
          clear hcell0
          have hbw : b < w5.heap.size := Nat.lt_of_lt_of_le hb HB5.out.2.2.2.1.size
          cases hz : zs0[k] <;> rw [hz] at hcell <;> cases ho : oddB t
          · have hpar : t % 2 = 0 := by simp [oddB] at ho; omega
            go_wp2_with (go_at_call 28; refine (qcEnd w q base _ _ c t _ HB5.out (by omega) (by omega) t (endT_even ho) false ho).mono ?_; rintro e w7 ⟨rfl, HB7⟩)
            go_roundw
            case rel => exact ⟨k + 1, _, _, _, t, _, [(Hd.mk 16 16 T)], hk0, by go_num, rfl, rfl, rfl, by omega, by omega, hid (Or.inr (.inl ⟨T, rfl, rfl, rfl, rfl, by omega, hT, by omega⟩)), HB7⟩
            case measure => simp [intOf]; omega
          · have hpar : t % 2 = 1 := by simp [oddB] at ho; omega
            go_wp2_with (go_at_call 28; refine (qcEnd w q base _ _ c t _ HB5.out (by omega) (by omega) (t + 1) (endT_odd ho) true ho).mono ?_; rintro e w7 ⟨rfl, HB7⟩)
            go_roundw
            case rel => exact ⟨k + 1, _, _, _, (t + 1), _, [(Hd.mk 16 16 T)], hk0, by go_num, rfl, rfl, rfl, by omega, by omega, hid (Or.inr (.inl ⟨T, rfl, rfl, rfl, rfl, by omega, hT, by omega⟩)), HB7⟩
            case measure => simp [intOf]; omega
          · have hpar : t % 2 = 0 := by simp [oddB] at ho; omega
            go_wp2_with (go_at_call 27; refine (qcBegin w q base _ _ c t _ HB5.out (by omega) (by omega) (t + 1) (beginT_even ho) true (by rw [ho]; rfl)).mono ?_; rintro e w7 ⟨rfl, HB7⟩)
            go_roundw
            case rel => exact ⟨k + 1, _, _, _, (t + 1), _, [(Hd.mk 16 16 T)], hk0, by go_num, rfl, rfl, rfl, by omega, by omega, hid (Or.inr (.inr (.inl ⟨T, rfl, rfl, rfl, rfl, by omega, hT, by omega⟩))), HB7⟩
            case measure => simp [intOf]; omega
          · have hpar : t % 2 = 1 := by simp [oddB] at ho; omega
            go_wp2_with (go_at_call 27; refine (qcBegin w q base _ _ c t _ HB5.out (by omega) (by omega) t (beginT_odd ho) false (by rw [ho]; rfl)).mono ?_; rintro e w7 ⟨rfl, HB7⟩)
            go_roundw
            case rel => exact ⟨k + 1, _, _, _, t, _, [(Hd.mk 16 16 T)], hk0, by go_num, rfl, rfl, rfl, by omega, by omega, hid (Or.inr (.inl ⟨T, rfl, rfl, rfl, rfl, by omega, hT, by omega⟩)), HB7⟩
            case measure => simp [intOf]; omega
        · have hk2 : (k : Int) = (zs0.length : Int) := by omega
          go_wp2
          go_ret
          exact ⟨rfl, HB5.out.2.2.2.1⟩
      · clear HK
        have hat : ¬ (k : Int) = a1 := by omega
        have hT1 : t + 1 ≤ T + 2 + T % 2 := by omega
        have hT2 : T + 2 + T % 2 ≤ t + 1 := by omega
        clear htT
        go_upto_region 20 with (first | (go_at_call 26; refine (qcNow w q base _ _ c t _ HB.out (by omega) (by omega)).mono ?_; rintro e w9 ⟨rfl, rfl⟩) | (go_at_call 12; refine (qcDue w q base _ [(Hd.mk 16 16 T)] c t _ HB.out (goodOne hT) (by simp) t [] [(Hd.mk 16 16 T)] (tw1_no hT (by omega)) rfl).mono ?_; rintro e w5 ⟨A5, c5, v5, rfl, HB5⟩))
        clear HB
        by_cases hlt : k < zs0.length
        · have hk0 : k + 1 ≤ zs0.length := by omega
          have hk2 : ¬ (k : Int) = (zs0.length : Int) := by omega
          have hk4 : (k : Int) < (zs0.length : Int) := by omega
          have hk5 : (0 : Int) ≤ (k : Int) := by omega
          obtain ⟨b, o, rfl, hb, hcell0⟩ := HS.out (by rw [List.length_map]; omega)
          have hcell : w5.cell? ⟨b, o + k, none⟩ = some (.bool zs0[k]) := by
            rw [HB5.out.2.2.2.1.cells b _ hb, hcell0 k (by rw [List.length_map]; omega), List.getElem_map]
          clear hcell0
          have hbw : b < w5.heap.size := Nat.lt_of_lt_of_le hb HB5.out.2.2.2.1.size
          cases hz : zs0[k] <;> rw [hz] at hcell <;> cases ho : oddB t
          · exfalso; simp [oddB] at ho; omega
          · have hpar : t % 2 = 1 := by simp [oddB] at ho; omega
            go_wp2_with (first | (go_at_call 28; refine (qcEnd w q base _ _ c t _ HB5.out (by omega) (by omega) (t + 1) (endT_odd ho) true ho).mono ?_; rintro e w7 ⟨rfl, HB7⟩) | (go_at_call 26; refine (qcNow w q base _ _ c (t + 1) _ HB7.out (by omega) (by omega)).mono ?_; rintro e w9 ⟨rfl, rfl⟩) | (go_at_call 12; refine (qcDue w q base _ [(Hd.mk 16 16 T)] c (t + 1) _ HB7.out (goodOne hT) (by simp) (t + 1) [(Hd.mk 16 16 T)] [] (tw1_yes hT (by omega)) rfl).mono ?_; rintro e w8 ⟨A6, c6, v6, rfl, HB8⟩))
            go_roundw
            case rel => exact ⟨k + 1, _, _, _, (t + 1), _, [], hk0, by go_num, rfl, rfl, rfl, by omega, by omega, hid (Or.inr (.inr (.inr ⟨rfl, rfl, rfl, rfl, by omega⟩))), HB8⟩
            case measure => simp [intOf]; omega
          · exfalso; simp [oddB] at ho; omega
          · have hpar : t % 2 = 1 := by simp [oddB] at ho; omega
            go_wp2_with (go_at_call 27; refine (qcBegin w q base _ _ c t _ HB5.out (by omega) (by omega) t (beginT_odd ho) false (by rw [ho]; rfl)).mono ?_; rintro e w7 ⟨rfl, HB7⟩)
            go_roundw
            case rel => exact ⟨k + 1, _, _, _, t, _, [(Hd.mk 16 16 T)], hk0, by go_num, rfl, rfl, rfl, by omega, by omega, hid (Or.inr (.inr (.inl ⟨T, rfl, rfl, rfl, rfl, by omega, hT, by omega⟩))), HB7⟩
            case measure => simp [intOf]; omega
        · have hk2 : (k : Int) = (zs0.length : Int) := by omega
          go_wp2
          go_ret
          exact ⟨rfl, HB5.out.2.2.2.1⟩
      · clear HK
        have hat : ¬ (k : Int) = a1 := by omega
        go_upto_region 20 with (fail)
        by_cases hlt : k < zs0.length
        · have hk0 : k + 1 ≤ zs0.length := by omega
          have hk2 : ¬ (k : Int) = (zs0.length : Int) := by omega
          have hk4 : (k : Int) < (zs0.length : Int) := by omega
          have hk5 : (0 : Int) ≤ (k : Int) := by omega
          obtain ⟨b, o, rfl, hb, hcell0⟩ := HS.out (by rw [List.length_map]; omega)
          have hcell : wr.cell? ⟨b, o + k, none⟩ = some (.bool zs0[k]) := by
            rw [HB.out.2.2.2.1.cells b _ hb, hcell0 k (by rw [List.length_map]; omega), List.getElem_map]
          clear hcell0
          have hbw : b < wr.heap.size := Nat.lt_of_lt_of_le hb HB.out.2.2.2.1.size
          cases hz : zs0[k] <;> rw [hz] at hcell <;> cases ho : oddB t
          · have hpar : t % 2 = 0 := by simp [oddB] at ho; omega
            go_wp2_with (go_at_call 28; refine (qcEnd w q base _ _ c t _ HB.out (by omega) (by omega) t (endT_even ho) false ho).mono ?_; rintro e w7 ⟨rfl, HB7⟩)
            go_roundw
            case rel => exact ⟨k + 1, _, _, _, t, _, [], hk0, by go_num, rfl, rfl, rfl, by omega, by omega, hid (Or.inr (.inr (.inr ⟨rfl, rfl, rfl, rfl, by omega⟩))), HB7⟩
            case measure => simp [intOf]; omega
          · have hpar : t % 2 = 1 := by simp [oddB] at ho; omega
            go_wp2_with (go_at_call 28; refine (qcEnd w q base _ _ c t _ HB.out (by omega) (by omega) (t + 1) (endT_odd ho) true ho).mono ?_; rintro e w7 ⟨rfl, HB7⟩)
            go_roundw
            case rel => exact ⟨k + 1, _, _, _, (t + 1), _, [], hk0, by go_num, rfl, rfl, rfl, by omega, by omega, hid (Or.inr (.inr (.inr ⟨rfl, rfl, rfl, rfl, by omega⟩))), HB7⟩
            case measure => simp [intOf]; omega
          · have hpar : t % 2 = 0 := by simp [oddB] at ho; omega
            go_wp2_with (go_at_call 27; refine (qcBegin w q base _ _ c t _ HB.out (by omega) (by omega) (t + 1) (beginT_even ho) true (by rw [ho]; rfl)).mono ?_; rintro e w7 ⟨rfl, HB7⟩)
            go_roundw
            case rel => exact ⟨k + 1, _, _, _, (t + 1), _, [], hk0, by go_num, rfl, rfl, rfl, by omega, by omega, hid (Or.inr (.inr (.inr ⟨rfl, rfl, rfl, rfl, by omega⟩))), HB7⟩
            case measure => simp [intOf]; omega
          · have hpar : t % 2 = 1 := by simp [oddB] at ho; omega
            go_wp2_with (go_at_call 27; refine (qcBegin w q base _ _ c t _ HB.out (by omega) (by omega) t (beginT_odd ho) false (by rw [ho]; rfl)).mono ?_; rintro e w7 ⟨rfl, HB7⟩)
            go_roundw
            case rel => exact ⟨k + 1, _, _, _, t, _, [], hk0, by go_num, rfl, rfl, rfl, by omega, by omega, hid (Or.inr (.inr (.inr ⟨rfl, rfl, rfl, rfl, by omega⟩))), HB7⟩
            case measure => simp [intOf]; omega
        · have hk2 : (k : Int) = (zs0.length : Int) := by omega
          go_wp2
          go_ret
          exact ⟨rfl, HB.out.2.2.2.1⟩
  · have hli : (300 : Int) < (zs0.length : Int) := by omega
    go_enter Try.func5, Try.ntmps5
    go_wp2_with (first | (go_at_call 8; refine Calls.mono (head_ _) ?_; rintro e wh ⟨rfl, hxh⟩) | (go_at_call 9; refine (qnew_ 100 _ (by decide) (by decide)).mono ?_; rintro e w1 ⟨q, rfl, hwq, hxn, hq1⟩) | (go_at_call 25; refine (new _).mono ?_; rintro e w2 ⟨c, rfl, hxc, hcq, hc2⟩))
    go_ret
    exact ⟨rfl, (hxh.trans hxn).trans hxc⟩
end quarClock

end Go.Proofs.Ytlbemgkdpagoiaa
