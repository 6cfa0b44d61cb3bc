/- The walk of the law ShadowBack. -/
import Derived.Test.YtgjjimpialgojaaShaI
namespace Go.Proofs.Ytgjjimpialgojaa
set_option linter.unusedSimpArgs false
set_option linter.unusedVariables false
open Go.RowKit

namespace shadowBack
set_option maxRecDepth 100000 in
set_option maxHeartbeats 4000000 in
theorem walk (A0 : Option Addr) (cap0 : Nat) (zs0 : List SOp) (a1 : Int) (a2 : Int) (w : World) (hs0 : SlAtN w A0 3 (zs0.map SOp.cells)) (hw0 : ∀ z ∈ zs0, wfS z) (w1 : (Lit.int .u8 a1).wf = true) (w2 : (Lit.int .u8 a2).wf = true) :
    Calls Try.prog 6 #[.slice A0 zs0.length cap0, .int .u8 a1, .int .u8 a2] w fun e w' => e = .returned (.bool true) ∧ Ext w w' := by
  have HS0 := hid hs0
  have HW0 := hid hw0
  clear hs0 hw0
  obtain ⟨l1, u1⟩ := wfu8 w1
  obtain ⟨l2, u2⟩ := wfu8 w2
  clear w1 w2
  obtain ⟨F, rfl⟩ := Int.eq_ofNat_of_zero_le l1
  obtain ⟨N, rfl⟩ := Int.eq_ofNat_of_zero_le l2
  go_enter Try.func6, Try.ntmps6
  go_wp2_with (go_at_call 8; refine Calls.mono (head _) ?_; rintro e wh ⟨rfl, hxh⟩; obtain ⟨dh, rfl⟩ := hxh.grown; clear hxh)
  refine Calls.mono (new_ 600 _ (by omega) (by omega)) ?_
  rintro e wn ⟨p, q, rfl, hsn, hxn, hpw, hqw⟩
  have hxw : Ext w wn := Ext.trans (by repeat (first | (with_reducible exact Ext.refl _) | (with_reducible refine Ext.undrew ?_) | (with_reducible refine Ext.grow ?_ _) | (with_reducible refine Ext.drew ?_) | (with_reducible refine Ext.drewN ?_ _) | (with_reducible refine Ext.alloc ?_ _) | (with_reducible assumption) | ((with_reducible refine Ext.setCell ?_ ?_ _); rotate_left; (first | exact Nat.le_refl _ | ((try dsimp only); (try simp only [World.size_alloc, grow_size, World.size_setCell]); omega))))) hxn
  have HPW := hid (show w.heap.size ≤ p by simp only [grow_size] at hpw; omega)
  have HQW := hid (show w.heap.size ≤ q by simp only [grow_size] at hqw; omega)
  have HSN := hid hsn
  have HXN := hid hxw
  clear hpw hqw hsn hxn hxw
  by_cases h300 : (zs0.length : Int) ≤ 300
  · go_wp2
    go_loopw [9] (fun iv wr => ∃ (k : Nat) (P : Nat → Bool), k ≤ zs0.length ∧ iv = .int .i64 (k : Int) ∧ Hid (Sh wr p q 600 P) ∧ Hid (Ext w wr)) (fun iv _ => zs0.length - (intOf iv).toNat)
    case atStart => exact ⟨0, fun _ => false, Nat.zero_le _, rfl, HSN, HXN⟩
    case round =>
      obtain ⟨k, P, hk, rfl, hs, hx⟩ := hrel
      by_cases hlt : k < zs0.length
      · obtain ⟨z, hz⟩ : ∃ z, zs0[k] = z := ⟨_, rfl⟩
        obtain ⟨f, t, b⟩ := z
        obtain ⟨bb, oo, hA, hbw, _⟩ := op_at HS0.out hlt _ hz
        obtain ⟨b2, o2, rfl, hb, c0, c1, c2⟩ := op_at (HS0.out.ext hx.out) hlt _ hz
        cases hA
        simp only at c0 c1 c2
        have hk0 : (0 : Int) ≤ (k : Int) := by omega
        have hk1 : (k : Int) < (zs0.length : Int) := by omega
        have hqr : q < wr.heap.size := hs.out.ltq
        have hnq : ¬ bb = q := by have := HQW.out; omega
        have hnq2 : ¬ q = bb := fun e => hnq e.symm
        go_wp2_with fail
        refine wp_region_turn (q := q) (.rd 0 (.rd 1 (.rd 2 (.rd 3 (.rd 4 (.rd 5 (.rd 6 (.rd 7 (.rd 8 (.rd 9 (.rd 10 (.rd 11 (.rd 12 (.rd 13 (.rd 14 (.rd 15 (.ac 16 .done))))))))))))))))) (by kernel_rfl) (by kernel_rfl) (fun _ _ d _ _ h => by cases d <;> exact h) (by simp only [Ord.map, nthOp, List.append]; rfl) ?_
        intro d0
        repeat (refine turn_read (by rfl) (fun Z hZ => ?_); go_big_quiet_op; refine hZ _ ?_; clear hZ Z)
        refine turn_act (by rfl) (fun Z hZ => ?_)
        go_wp2_with fail
        refine Calls.mono (paint_any (hs.out.ext (Ext.grow (Ext.refl _) d0)) f t b) ?_
        rintro e w2 ⟨rfl, hs2, ho2⟩
        go_wp2_with fail
        refine ⟨_, Only.refl _ _, ho2, ?_⟩
        refine turn_nil ?_
        have hg2 : Ext wr (Go.Proofs.Ytgjjimpialgojaa.grow wr d0) := Ext.grow (Ext.refl _) d0
        generalize Go.Proofs.Ytgjjimpialgojaa.grow wr d0 = G at ho2 hg2
        have HX2 := hid (Ext.only (Ext.trans hx.out hg2) ho2 (fun x hx => by subst hx; exact HQW.out))
        have HS2 := hid hs2
        clear ho2 hg2 hs2 hs hx
        go_wp2
        go_roundw
        case rel => exact ⟨k + 1, _, by omega, by first | rfl | go_num, HS2, HX2⟩
        case measure => first | (simp [intOf]; done) | (simp [intOf]; omega)
      · obtain rfl : k = zs0.length := by omega
        go_wp2
        go_loop [12] (fun iv => ∃ j : Nat, j ≤ N ∧ iv = .int .i64 (16 * (F : Int) + 16 * (j : Int)) ∧ Hid (∀ i, i < j → P (F + i) = false)) (fun iv => 16 * F + 16 * N + 16 - (intOf iv).toNat)
        case atStart => exact ⟨0, Nat.zero_le _, by simp, hid fun i hi => absurd hi (by omega)⟩
        case round =>
          obtain ⟨j, hj, rfl, hall⟩ := hrel
          by_cases hjl : j < N
          · have HI := hid (isP_at (n := 600) (P := P) (show (16 * F + 16 * j) / 16 = F + j by omega))
            have HC := hid (show ((16 * F + 16 * j : Nat) : Int) = 16 * (F : Int) + 16 * (j : Int) by omega)
            rw [HC.out] at HI
            cases hp : P (F + j) with
            | true =>
              rw [hp] at HI
              clear hp
              go_wp2_with (go_at_call 15; (with_reducible refine Calls.mono (is_ hs.out (16 * (F : Int) + 16 * (j : Int)) (by omega)) ?_); rw [HI.out]; rintro e w1 ⟨rfl, rfl⟩)
              go_ret
              exact ⟨rfl, hx.out⟩
            | false =>
              have HA := hid (upto_snoc (p := fun i => P (F + i) = false) hall.out hp)
              rw [hp] at HI
              clear hp
              go_wp2_with (go_at_call 15; (with_reducible refine Calls.mono (is_ hs.out (16 * (F : Int) + 16 * (j : Int)) (by omega)) ?_); rw [HI.out]; rintro e w1 ⟨rfl, rfl⟩)
              go_round
              case rel => exact ⟨j + 1, by omega, by first | rfl | go_num | (congr 1; omega), HA⟩
              case measure => first | (simp [intOf]; done) | (simp [intOf]; omega)
          · obtain rfl : N = j := by omega
            have hG := paintP_go (n := 600) (F := F) (N := N) (P := P) (b := true) (by omega)
            have hG2 := paintP_go (n := 600) (F := F) (N := N) (P := updR P F N true) (b := false) (by omega)
            have HC := hid (cnt_updR N hall.out 600 (by omega))
            have HB := hid (updR_back hall.out)
            have HG := hid hG
            have HG2 := hid hG2
            have hcl := cnt_le P 600
            obtain ⟨c, hc⟩ : ∃ c, cnt P 600 = c := ⟨_, rfl⟩
            rw [hc] at hcl
            have HCC := hid hc
            clear hG hG2 hall hc
            go_wp2_with fail
            refine Calls.mono (runs_ p q 600 P _ hs.out) ?_
            rintro e w3 ⟨A, ca, rfl, hrd, hx3, hbs⟩
            have hs3 := hs.out.ext hx3
            have HBS := hid (show ∀ b o, A = some ⟨b, o, none⟩ → ¬ b = q from fun b o h => by have h1 := hbs b o h; have h2 := hs.out.ltq; omega)
            have hX3 := Ext.trans hx.out hx3
            have hrl := rowsP_len P 600
            obtain ⟨R, hR⟩ : ∃ R, rowsP P 600 = R := ⟨_, rfl⟩
            rw [hR] at hrd hrl ⊢
            have HRR := hid hR
            clear hbs hx hx3 hs hR
            go_wp2_with fail
            refine Calls.mono (many_ p q 600 P _ hs3) ?_
            rw [HCC.out]
            rintro e w' ⟨rfl, rfl⟩
            go_wp2_with fail
            refine Calls.mono (paint_any hs3 (16 * (F : Int)) (16 * (F : Int) + 16 * (N : Int)) true) ?_
            rw [HG.out.1, HG.out.2]
            rintro e w4 ⟨rfl, hs4, ho4⟩
            have hrd4 := hrd.only ho4 HBS.out
            have hX4 := Ext.only hX3 ho4 (fun x hx => by subst hx; exact HQW.out)
            clear hs3 ho4 hX3 hrd
            go_wp2_with fail
            refine Calls.mono (many_ p q 600 _ _ hs4) ?_
            rw [HC.out, HCC.out]
            rintro e w' ⟨rfl, rfl⟩
            go_wp2_with fail
            refine Calls.mono (paint_any hs4 (16 * (F : Int)) (16 * (F : Int) + 16 * (N : Int)) false) ?_
            rw [HG2.out.1, HG2.out.2, HB.out]
            rintro e w5 ⟨rfl, hs5, ho5⟩
            have hrd5 := hrd4.only ho5 HBS.out
            have hX5 := Ext.only hX4 ho5 (fun x hx => by subst hx; exact HQW.out)
            clear hs4 ho5 hX4 hrd4
            go_wp2_with fail
            refine Calls.mono (runs_ p q 600 P _ hs5) ?_
            rintro e w6 ⟨A6, ca6, rfl, hrd6, hx6, _⟩
            rw [HRR.out] at hrd6 ⊢
            have HX6 := hid (Ext.trans hX5 hx6)
            have HRA := hid hrd6
            have HRB := hid (hrd5.ext hx6)
            clear hX5 hx6 hrd6 hrd5 hs5
            go_wp2_with fail
            refine Calls.mono (same_ A6 A _ ca6 ca R _ HRA.out HRB.out rfl (by omega)) ?_
            rintro e w7 ⟨rfl, hx7⟩
            have HX7 := hid (Ext.trans HX6.out hx7)
            clear hx7
            go_wp2
            go_ret
            exact ⟨by first | rfl | (simp; done) | (simp; omega), HX7.out⟩
  · have h300' : ¬ (zs0.length : Int) ≤ 300 := h300
    go_wp2
    go_ret
    exact ⟨rfl, Ext.trans HXN.out (by repeat (first | (with_reducible exact Ext.refl _) | (with_reducible refine Ext.undrew ?_) | (with_reducible refine Ext.grow ?_ _) | (with_reducible refine Ext.drew ?_) | (with_reducible refine Ext.drewN ?_ _) | (with_reducible refine Ext.alloc ?_ _) | (with_reducible assumption) | ((with_reducible refine Ext.setCell ?_ ?_ _); rotate_left; (first | exact Nat.le_refl _ | ((try dsimp only); (try simp only [World.size_alloc, grow_size, World.size_setCell]); omega)))))⟩
end shadowBack

end Go.Proofs.Ytgjjimpialgojaa
