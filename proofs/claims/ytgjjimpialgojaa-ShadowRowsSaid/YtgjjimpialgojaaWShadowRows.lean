/- The walk of the law ShadowRows. -/
import Derived.Test.YtgjjimpialgojaaShaK
namespace Go.Proofs.Ytgjjimpialgojaa
set_option linter.unusedSimpArgs false
set_option linter.unusedVariables false
open Go.RowKit

namespace shadowRows
set_option maxRecDepth 100000 in
set_option maxHeartbeats 8000000 in
theorem walk (A0 : Option Addr) (cap0 : Nat) (zs0 : List SOp) (w : World) (hs0 : SlAtN w A0 3 (zs0.map SOp.cells)) (hw0 : ∀ z ∈ zs0, wfS z) :
    Calls Try.prog 5 #[.slice A0 zs0.length cap0] w fun e w' => e = .returned (.bool true) ∧ Ext w w' := by
  have HS0 := hid hs0
  have HW0 := hid hw0
  clear hs0 hw0
  go_enter Try.func5, Try.ntmps5
  go_wp2_with (go_at_call 8; refine Calls.mono (head _) ?_; rintro e wh ⟨rfl, hxh⟩; obtain ⟨dh, rfl⟩ := hxh.grown; clear hxh)
  refine Calls.mono (new_ 130 _ (by omega) (by omega)) ?_
  rintro e wn ⟨p, q, rfl, hsn, hxn, hpw, hqw⟩
  have hxw : Ext w wn := Ext.trans (by repeat (first | (with_reducible exact Ext.refl _) | (with_reducible refine Ext.undrew ?_) | (with_reducible refine Ext.grow ?_ _) | (with_reducible refine Ext.drew ?_) | (with_reducible refine Ext.drewN ?_ _) | (with_reducible refine Ext.alloc ?_ _) | (with_reducible assumption) | ((with_reducible refine Ext.setCell ?_ ?_ _); rotate_left; (first | exact Nat.le_refl _ | ((try dsimp only); (try simp only [World.size_alloc, grow_size, World.size_setCell]); omega))))) hxn
  have HPW := hid (show w.heap.size ≤ p by simp only [grow_size] at hpw; omega)
  have HQW := hid (show w.heap.size ≤ q by simp only [grow_size] at hqw; omega)
  have HSN := hid hsn
  have HXN := hid hxw
  clear hpw hqw hsn hxn hxw
  by_cases h300 : (zs0.length : Int) ≤ 300
  · go_wp2
    go_loopw [5] (fun iv wr => ∃ (k : Nat) (P : Nat → Bool), k ≤ zs0.length ∧ iv = .int .i64 (k : Int) ∧ Hid (Sh wr p q 130 P) ∧ Hid (Ext w wr)) (fun iv _ => zs0.length - (intOf iv).toNat)
    case atStart => exact ⟨0, fun _ => false, Nat.zero_le _, rfl, HSN, HXN⟩
    case round =>
      obtain ⟨k, P, hk, rfl, hs, hx⟩ := hrel
      by_cases hlt : k < zs0.length
      · obtain ⟨z, hz⟩ : ∃ z, zs0[k] = z := ⟨_, rfl⟩
        obtain ⟨f, t, b⟩ := z
        obtain ⟨bb, oo, hA, hbw, _⟩ := op_at HS0.out hlt _ hz
        obtain ⟨b2, o2, rfl, hb, c0, c1, c2⟩ := op_at (HS0.out.ext hx.out) hlt _ hz
        cases hA
        simp only at c0 c1 c2
        have hk0 : (0 : Int) ≤ (k : Int) := by omega
        have hk1 : (k : Int) < (zs0.length : Int) := by omega
        have hqr : q < wr.heap.size := hs.out.ltq
        have hnq : ¬ bb = q := by have := HQW.out; omega
        have hnq2 : ¬ q = bb := fun e => hnq e.symm
        go_wp2_with fail
        refine wp_region_turn (q := q) (.rd 0 (.rd 1 (.rd 2 (.rd 3 (.rd 4 (.rd 5 (.rd 6 (.rd 7 (.rd 8 (.rd 9 (.rd 10 (.rd 11 (.rd 12 (.rd 13 (.rd 14 (.rd 15 (.ac 16 .done))))))))))))))))) (by kernel_rfl) (by kernel_rfl) (fun _ _ d _ _ h => by cases d <;> exact h) (by simp only [Ord.map, nthOp, List.append]; rfl) ?_
        intro d0
        repeat (refine turn_read (by rfl) (fun Z hZ => ?_); go_big_quiet_op; refine hZ _ ?_; clear hZ Z)
        refine turn_act (by rfl) (fun Z hZ => ?_)
        go_wp2_with fail
        refine Calls.mono (paint_any (hs.out.ext (Ext.grow (Ext.refl _) d0)) f t b) ?_
        rintro e w2 ⟨rfl, hs2, ho2⟩
        go_wp2_with fail
        refine ⟨_, Only.refl _ _, ho2, ?_⟩
        refine turn_nil ?_
        have hg2 : Ext wr (Go.Proofs.Ytgjjimpialgojaa.grow wr d0) := Ext.grow (Ext.refl _) d0
        generalize Go.Proofs.Ytgjjimpialgojaa.grow wr d0 = G at ho2 hg2
        have HX2 := hid (Ext.only (Ext.trans hx.out hg2) ho2 (fun x hx => by subst hx; exact HQW.out))
        have HS2 := hid hs2
        clear ho2 hg2 hs2 hs hx
        go_wp2
        go_roundw
        case rel => exact ⟨k + 1, _, by omega, by first | rfl | go_num, HS2, HX2⟩
        case measure => first | (simp [intOf]; done) | (simp [intOf]; omega)
      · obtain rfl : k = zs0.length := by omega
        have HG0 := rows_good P 130
        have hrl := rowsP_len P 130
        go_wp2_with fail
        refine Calls.mono (runs_ p q 130 P _ hs.out) ?_
        rintro e w3 ⟨A, ca, rfl, hrd, hx3, _⟩
        have HS := hid (hs.out.ext hx3)
        have HX := hid (Ext.trans hx.out hx3)
        have HOUT := hid hs.out.out
        clear hs hx hx3
        generalize rowsP P 130 = R at HG0 hrl hrd ⊢
        have HG := hid HG0
        have HRD := hid hrd
        clear HG0 hrd
        have hsm := HG.out.sum
        have hcl := cnt_le P 130
        go_wp2
        go_loop [7, 8] (fun mv iv => ∃ j : Nat, j ≤ R.length ∧ iv = .int .i64 (j : Int) ∧ mv = .int .i64 (sumTo R j : Int)) (fun _ iv => R.length - (intOf iv).toNat)
        case atStart => exact ⟨0, Nat.zero_le _, rfl, rfl⟩
        case round =>
          obtain ⟨j, hj, rfl, rfl⟩ := hrel
          by_cases hjl : j < R.length
          · obtain ⟨b0, o0, rfl, hb0, hcc⟩ := HRD.out (by omega)
            obtain ⟨c0, c1⟩ := hcc j hjl
            have hgood := HG.out.each j hjl
            have HSUM := hid (sumTo_succ hjl)
            have hst := sumTo_le (L := R) j
            have hst2 := sumTo_le (L := R) (j + 1)
            obtain ⟨a, ha⟩ : ∃ a, (R[j]).1 = a := ⟨_, rfl⟩
            obtain ⟨b, hb⟩ : ∃ b, (R[j]).2 = b := ⟨_, rfl⟩
            obtain ⟨g1, g2, g3, g4, g5⟩ := hgood
            rw [ha, hb] at HSUM
            rw [ha] at c0 g1 g3 g4
            rw [hb] at c1 g1 g2 g3 g5
            have HA1 := hid (show isP 130 P (16 * (a : Int) - 1) = false by
              rcases g4 with e | e
              · subst e; rfl
              · by_cases e0 : a = 0
                · subst e0; rfl
                · rw [show 16 * (a : Int) - 1 = ((16 * a - 1 : Nat) : Int) by omega, isP_at (show (16 * a - 1) / 16 = a - 1 by omega)]
                  exact e)
            have HB1 := hid (show isP 130 P (16 * (b : Int)) = false by
              rw [show 16 * (b : Int) = ((16 * b : Nat) : Int) by omega, isP_at (show (16 * b) / 16 = b by omega)]
              rcases g5 with e | e
              · rw [e]; exact HOUT.out 130 (by omega)
              · exact e)
            obtain ⟨c, hcd⟩ : ∃ c, b - a = c := ⟨_, rfl⟩
            rw [hcd] at HSUM
            rw [HSUM.out] at hst2
            obtain ⟨s, hse⟩ : ∃ s, sumTo R j = s := ⟨_, rfl⟩
            rw [hse] at HSUM hst hst2 ⊢
            have hbc : b = a + c := by omega
            subst hbc
            have hj0 : (0 : Int) ≤ (j : Int) := by omega
            have hj1 : (j : Int) < (R.length : Int) := by omega
            have hjb : (j : Int) ≤ 130 := by omega
            have hab : (a : Int) + (c : Int) ≤ 130 := by omega
            have hsb : (s : Int) + (c : Int) ≤ 130 := by omega
            have hs0 : (0 : Int) ≤ (s : Int) := by omega
            have hc1 : (1 : Int) ≤ (c : Int) := by omega
            have ha0 : (0 : Int) ≤ (a : Int) := by omega
            have hwc : wrap64 (c : Int) = (c : Int) := by clear hc1 hs0 hsb hab hjb hj1 hj0; unfold wrap64; omega
            have HGA := hid (fun (y : Nat) (h1 : a ≤ y) (h2 : y < a + c) => g3 y h1 h2)
            obtain ⟨A16, hA16⟩ : ∃ x : Int, 16 * (a : Int) = x := ⟨_, rfl⟩
            obtain ⟨B16, hB16⟩ : ∃ x : Int, 16 * ((a + c : Nat) : Int) = x := ⟨_, rfl⟩
            rw [hA16] at c0 HA1
            rw [hB16] at c1 HB1
            have rA : A16.tmod 16 = 0 := tmod_eq (by clear hwc; omega)
            have rB : B16.tmod 16 = 0 := tmod_eq (by clear hwc; omega)
            have lA : 0 ≤ A16 := by clear hwc; omega
            have lAB : A16 < B16 := by clear hwc; omega
            have lB : B16 ≤ 2080 := by clear hwc; omega
            have hq : (B16 - A16).tdiv 16 = (c : Int) := by clear hwc; rw [Int.tdiv_eq_ediv_of_nonneg (by omega)]; omega
            have HD := hid (show B16 = A16 + 16 * (c : Int) by clear hwc; omega)
            have HAI := hid hA16
            have hbw : b0 < w3.heap.size := hb0
            have HPREV := hid (fun (j' : Nat) (e : j = j' + 1) => show ∃ pb : Int, w3.cell? ⟨b0, o0 + j' * 2 + 1, none⟩ = some (.int .i64 pb) ∧ pb < A16 from ⟨16 * ((R[j']'(by omega)).2 : Int), (hcc j' (by omega)).2, by
              have h1 := HG.out.apart j' (by omega)
              subst e
              clear hwc
              have h2 : (R[j' + 1]).1 = a := ha
              omega⟩)
            have HC130 := hid hc1
            clear hcc ha hb hA16 hB16 g1 g2 g3 g4 g5 hse hcd hst hst2 hab hcl hsm hrl
            match j, hj, hjl with
            | 0, hj, hjl =>
              simp only [Nat.zero_mul, Nat.add_zero] at c0 c1
              clear hj0 hj1 hjb HPREV
              go_wp2_with (first | (go_at_call 15; (with_reducible refine Calls.mono (is_ HS.out (A16 - 1) (by clear hwc; omega)) ?_); rw [HA1.out]; rintro e w1 ⟨rfl, rfl⟩) | (go_at_call 15; (with_reducible refine Calls.mono (is_ HS.out (B16) (by clear hwc; omega)) ?_); rw [HB1.out]; rintro e w1 ⟨rfl, rfl⟩))
              go_loop [11] (fun iv => ∃ d : Nat, d ≤ 16 * c ∧ iv = .int .i64 (A16 + (d : Int))) (fun iv => 16 * a + 16 * c - (intOf iv).toNat)
              case atStart => exact ⟨0, Nat.zero_le _, by simp⟩
              case round =>
                obtain ⟨d, hd, rfl⟩ := hrel
                by_cases hdl : d < 16 * c
                · have hdc : A16 + (d : Int) < B16 := by clear hwc; rw [HD.out]; omega
                  have hd0 : (0 : Int) ≤ (d : Int) := by clear hwc; omega
                  have HI := hid (show isP 130 P (A16 + (d : Int)) = true by
                    clear hwc
                    rw [← HAI.out, show 16 * (a : Int) + (d : Int) = ((16 * a + d : Nat) : Int) by omega, isP_at (show (16 * a + d) / 16 = a + d / 16 by omega)]
                    exact HGA.out _ (by omega) (by omega))
                  have hAa := HAI.out
                  have hDd := HD.out
                  have HLE := hid (show A16 + (d : Int) ≤ 9223372036854775807 by clear hwc; omega)
                  have HMS := hid (show 16 * a + 16 * c - (A16 + ((d : Int) + 1)).toNat < 16 * a + 16 * c - (A16 + (d : Int)).toNat by clear hwc; omega)
                  have HAD := hid (show A16 + (d : Int) + 1 = A16 + ((d + 1 : Nat) : Int) by clear hwc; omega)
                  clear hAa hDd
                  go_wp2_with (go_at_call 15; (with_reducible refine Calls.mono (is_ HS.out (A16 + (d : Int)) HLE.out) ?_); rw [HI.out]; rintro e w1 ⟨rfl, rfl⟩)
                  go_round
                  case rel => exact ⟨d + 1, by omega, by rw [← HAD.out]⟩
                  case measure => first | (simp [intOf]; done) | (have := HMS.out; simp only [intOf]; omega)
                · obtain rfl : d = 16 * c := by clear hwc; omega
                  have hdc : ¬ A16 + ((16 * c : Nat) : Int) < B16 := by clear hwc; rw [HD.out]; omega
                  go_wp2
                  go_round
                  case rel => exact ⟨0 + 1, by omega, by first | rfl | go_num, by rw [HSUM.out]; first | rfl | go_num⟩
                  case measure => first | (simp [intOf]; done) | (simp [intOf]; omega)
            | j' + 1, hj, hjl =>
              obtain ⟨pb, c2, hpb⟩ := HPREV.out j' rfl
              have hpb2 : ¬ A16 ≤ pb := by clear hwc; omega
              have hjn : (0 : Int) ≤ (j' : Int) := by clear hwc; omega
              have hjm : (j' : Int) < (R.length : Int) := by clear hwc; omega
              clear HPREV
              go_wp2_with (first | (go_at_call 15; (with_reducible refine Calls.mono (is_ HS.out (A16 - 1) (by clear hwc; omega)) ?_); rw [HA1.out]; rintro e w1 ⟨rfl, rfl⟩) | (go_at_call 15; (with_reducible refine Calls.mono (is_ HS.out (B16) (by clear hwc; omega)) ?_); rw [HB1.out]; rintro e w1 ⟨rfl, rfl⟩))
              go_loop [11] (fun iv => ∃ d : Nat, d ≤ 16 * c ∧ iv = .int .i64 (A16 + (d : Int))) (fun iv => 16 * a + 16 * c - (intOf iv).toNat)
              case atStart => exact ⟨0, Nat.zero_le _, by simp⟩
              case round =>
                obtain ⟨d, hd, rfl⟩ := hrel
                by_cases hdl : d < 16 * c
                · have hdc : A16 + (d : Int) < B16 := by clear hwc; rw [HD.out]; omega
                  have hd0 : (0 : Int) ≤ (d : Int) := by clear hwc; omega
                  have HI := hid (show isP 130 P (A16 + (d : Int)) = true by
                    clear hwc
                    rw [← HAI.out, show 16 * (a : Int) + (d : Int) = ((16 * a + d : Nat) : Int) by omega, isP_at (show (16 * a + d) / 16 = a + d / 16 by omega)]
                    exact HGA.out _ (by omega) (by omega))
                  have hAa := HAI.out
                  have hDd := HD.out
                  have HLE := hid (show A16 + (d : Int) ≤ 9223372036854775807 by clear hwc; omega)
                  have HMS := hid (show 16 * a + 16 * c - (A16 + ((d : Int) + 1)).toNat < 16 * a + 16 * c - (A16 + (d : Int)).toNat by clear hwc; omega)
                  have HAD := hid (show A16 + (d : Int) + 1 = A16 + ((d + 1 : Nat) : Int) by clear hwc; omega)
                  clear hAa hDd
                  go_wp2_with (go_at_call 15; (with_reducible refine Calls.mono (is_ HS.out (A16 + (d : Int)) HLE.out) ?_); rw [HI.out]; rintro e w1 ⟨rfl, rfl⟩)
                  go_round
                  case rel => exact ⟨d + 1, by omega, by rw [← HAD.out]⟩
                  case measure => first | (simp [intOf]; done) | (have := HMS.out; simp only [intOf]; omega)
                · obtain rfl : d = 16 * c := by clear hwc; omega
                  have hdc : ¬ A16 + ((16 * c : Nat) : Int) < B16 := by clear hwc; rw [HD.out]; omega
                  go_wp2
                  go_round
                  case rel => exact ⟨(j' + 1) + 1, by omega, by first | rfl | go_num, by rw [HSUM.out]; first | rfl | go_num⟩
                  case measure => first | (simp [intOf]; done) | (simp [intOf]; omega)
          · obtain rfl : j = R.length := by omega
            have HT := hid (show sumTo R R.length = cnt P 130 by unfold sumTo; rw [List.take_length, hsm])
            rw [HT.out]
            go_wp2_with fail
            refine Calls.mono (many_ p q 130 P _ HS.out) ?_
            rintro e w' ⟨rfl, rfl⟩
            go_wp2
            go_ret
            exact ⟨by first | rfl | (simp; done), HX.out⟩
  · have h300' : ¬ (zs0.length : Int) ≤ 300 := h300
    go_wp2
    go_ret
    exact ⟨rfl, Ext.trans HXN.out (by repeat (first | (with_reducible exact Ext.refl _) | (with_reducible refine Ext.undrew ?_) | (with_reducible refine Ext.grow ?_ _) | (with_reducible refine Ext.drew ?_) | (with_reducible refine Ext.drewN ?_ _) | (with_reducible refine Ext.alloc ?_ _) | (with_reducible assumption) | ((with_reducible refine Ext.setCell ?_ ?_ _); rotate_left; (first | exact Nat.le_refl _ | ((try dsimp only); (try simp only [World.size_alloc, grow_size, World.size_setCell]); omega)))))⟩
end shadowRows

end Go.Proofs.Ytgjjimpialgojaa
