/- The walk of the law ShadowParts. -/
import Derived.Test.YtgjjimpialgojaaShaI
namespace Go.Proofs.Ytgjjimpialgojaa
set_option linter.unusedSimpArgs false
set_option linter.unusedVariables false
open Go.RowKit

namespace shadowParts
set_option maxRecDepth 100000 in
set_option maxHeartbeats 8000000 in
theorem walk (A0 : Option Addr) (cap0 : Nat) (zs0 : List SOp) (a1 : Int) (a2 : Int) (a3 : Int) (a4 : Bool) (w : World) (hs0 : SlAtN w A0 3 (zs0.map SOp.cells)) (hw0 : ∀ z ∈ zs0, wfS z) (w1 : (Lit.int .u8 a1).wf = true) (w2 : (Lit.int .u8 a2).wf = true) (w3 : (Lit.int .u8 a3).wf = true) :
    Calls Try.prog 7 #[.slice A0 zs0.length cap0, .int .u8 a1, .int .u8 a2, .int .u8 a3, .bool a4] w fun e w' => e = .returned (.bool true) ∧ Ext w w' := by
  have HS0 := hid hs0
  have HW0 := hid hw0
  clear hs0 hw0
  obtain ⟨l1, u1⟩ := wfu8 w1
  obtain ⟨l2, u2⟩ := wfu8 w2
  obtain ⟨l3, u3⟩ := wfu8 w3
  clear w1 w2 w3
  obtain ⟨F, rfl⟩ := Int.eq_ofNat_of_zero_le l1
  obtain ⟨N, rfl⟩ := Int.eq_ofNat_of_zero_le l2
  obtain ⟨K, hK⟩ : ∃ K : Nat, a3 % ((N : Int) + 1) = (K : Int) := ⟨(a3 % ((N : Int) + 1)).toNat, by have := Int.emod_nonneg a3 (show (N : Int) + 1 ≠ 0 by omega); omega⟩
  have hKN : K ≤ N := by have := Int.emod_lt_of_pos a3 (show (0 : Int) < (N : Int) + 1 by omega); omega
  have hKt : a3.tmod ((N : Int) + 1) = (K : Int) := by rw [Int.tmod_eq_emod_of_nonneg l3]; exact hK
  go_enter Try.func7, Try.ntmps7
  go_wp2_with (go_at_call 8; refine Calls.mono (head _) ?_; rintro e wh ⟨rfl, hxh⟩; obtain ⟨dh, rfl⟩ := hxh.grown; clear hxh)
  refine Calls.mono (new_ 600 _ (by omega) (by omega)) ?_
  rintro e wn ⟨p, q, rfl, hsn, hxn, hpw, hqw⟩
  have hxw : Ext w wn := Ext.trans (by repeat (first | (with_reducible exact Ext.refl _) | (with_reducible refine Ext.undrew ?_) | (with_reducible refine Ext.grow ?_ _) | (with_reducible refine Ext.drew ?_) | (with_reducible refine Ext.drewN ?_ _) | (with_reducible refine Ext.alloc ?_ _) | (with_reducible assumption) | ((with_reducible refine Ext.setCell ?_ ?_ _); rotate_left; (first | exact Nat.le_refl _ | ((try dsimp only); (try simp only [World.size_alloc, grow_size, World.size_setCell]); omega))))) hxn
  have hpw' : w.heap.size ≤ p := by simp only [grow_size] at hpw; omega
  have hqw' : w.heap.size ≤ q := by simp only [grow_size] at hqw; omega
  have hlp := hsn.ltp
  have hlq := hsn.ltq
  go_wp2_with fail
  refine Calls.mono (new_ 600 _ (by omega) (by omega)) ?_
  rintro e wnb ⟨pb, qb, rfl, hsnb, hxnb, hpwb, hqwb⟩
  have HPW := hid hpw'
  have HQW := hid hqw'
  have HQW2 := hid (show w.heap.size ≤ qb by have := hxw.size; omega)
  have nd1 : ¬ p = qb := by omega
  have nd2 : ¬ q = qb := by omega
  have nd3 : ¬ pb = q := by omega
  have nd4 : ¬ qb = q := by omega
  have HSN := hid (hsn.ext hxnb)
  have HSB := hid hsnb
  have HXN := hid (Ext.trans hxw hxnb)
  clear hpw hqw hsn hxn hxw hpwb hqwb hsnb hxnb hlp hlq hpw' hqw'
  by_cases h300 : (zs0.length : Int) ≤ 300
  · go_wp2
    go_loopw [14] (fun iv wr => ∃ (k : Nat) (P : Nat → Bool), k ≤ zs0.length ∧ iv = .int .i64 (k : Int) ∧ Hid (Sh wr p q 600 P) ∧ Hid (Sh wr pb qb 600 P) ∧ Hid (Ext w wr)) (fun iv _ => zs0.length - (intOf iv).toNat)
    case atStart => exact ⟨0, fun _ => false, Nat.zero_le _, rfl, HSN, HSB, HXN⟩
    case round =>
      obtain ⟨k, P, hk, rfl, hs, hsb, hx⟩ := hrel
      by_cases hlt : k < zs0.length
      · obtain ⟨z, hz⟩ : ∃ z, zs0[k] = z := ⟨_, rfl⟩
        obtain ⟨f, t, b⟩ := z
        obtain ⟨bb, oo, hA, hbw, _⟩ := op_at HS0.out hlt _ hz
        obtain ⟨b2, o2, rfl, hb, c0, c1, c2⟩ := op_at (HS0.out.ext hx.out) hlt _ hz
        cases hA
        simp only at c0 c1 c2
        have hk0 : (0 : Int) ≤ (k : Int) := by omega
        have hk1 : (k : Int) < (zs0.length : Int) := by omega
        have hqr : q < wr.heap.size := hs.out.ltq
        have hnq : ¬ bb = q := by have := HQW.out; omega
        have hnq2 : ¬ q = bb := fun e => hnq e.symm
        have hnb : ¬ bb = qb := by have := HQW2.out; omega
        have hnb2 : ¬ qb = bb := fun e => hnb e.symm
        go_wp2_with fail
        refine wp_region_turn (q := q) (.rd 0 (.rd 1 (.rd 2 (.rd 3 (.rd 4 (.rd 5 (.rd 6 (.rd 7 (.rd 8 (.rd 9 (.rd 10 (.rd 11 (.rd 12 (.rd 13 (.rd 14 (.rd 15 (.ac 16 .done))))))))))))))))) (by kernel_rfl) (by kernel_rfl) (fun _ _ d _ _ h => by cases d <;> exact h) (by simp only [Ord.map, nthOp, List.append]; rfl) ?_
        intro d2
        repeat (refine turn_read (by rfl) (fun Z hZ => ?_); go_big_quiet_op; refine hZ _ ?_; clear hZ Z)
        refine turn_act (by rfl) (fun Z hZ => ?_)
        go_wp2_with fail
        refine Calls.mono (paint_any (hs.out.ext (Ext.grow (Ext.refl _) d2)) f t b) ?_
        rintro e w2 ⟨rfl, hs2, ho2⟩
        go_wp2_with fail
        refine ⟨_, Only.refl _ _, ho2, ?_⟩
        refine turn_nil ?_
        have hg2 : Ext wr (Go.Proofs.Ytgjjimpialgojaa.grow wr d2) := Ext.grow (Ext.refl _) d2
        generalize Go.Proofs.Ytgjjimpialgojaa.grow wr d2 = G2 at ho2 hg2
        have hsb2 := (hsb.out.ext hg2).only ho2 nd3 nd4
        have hX2 := Ext.only (Ext.trans hx.out hg2) ho2 (fun x hx => by subst hx; exact HQW.out)
        have HS2 := hid hs2
        have HSB2 := hid hsb2
        have HX2 := hid hX2
        have hqr2 : qb < w2.heap.size := hsb2.ltq
        replace c0 := (ho2.cells bb _ (Nat.lt_of_lt_of_le hb hg2.size) hnq).trans ((hg2.cells bb _ hb).trans c0)
        replace c1 := (ho2.cells bb _ (Nat.lt_of_lt_of_le hb hg2.size) hnq).trans ((hg2.cells bb _ hb).trans c1)
        replace c2 := (ho2.cells bb _ (Nat.lt_of_lt_of_le hb hg2.size) hnq).trans ((hg2.cells bb _ hb).trans c2)
        replace hb := Nat.lt_of_lt_of_le (Nat.lt_of_lt_of_le hb hg2.size) ho2.size
        clear ho2 hg2 hs2 hsb2 hX2 hs hsb hx
        go_wp2_with fail
        refine wp_region_turn (q := qb) (.rd 0 (.rd 1 (.rd 2 (.rd 3 (.rd 4 (.rd 5 (.rd 6 (.rd 7 (.rd 8 (.rd 9 (.rd 10 (.rd 11 (.rd 12 (.rd 13 (.rd 14 (.rd 15 (.ac 16 .done))))))))))))))))) (by kernel_rfl) (by kernel_rfl) (fun _ _ d _ _ h => by cases d <;> exact h) (by simp only [Ord.map, nthOp, List.append]; rfl) ?_
        intro d3
        repeat (refine turn_read (by rfl) (fun Z hZ => ?_); go_big_quiet_op; refine hZ _ ?_; clear hZ Z)
        refine turn_act (by rfl) (fun Z hZ => ?_)
        go_wp2_with fail
        refine Calls.mono (paint_any (HSB2.out.ext (Ext.grow (Ext.refl _) d3)) f t b) ?_
        rintro e w3 ⟨rfl, hs3, ho3⟩
        go_wp2_with fail
        refine ⟨_, Only.refl _ _, ho3, ?_⟩
        refine turn_nil ?_
        have hg3 : Ext w2 (Go.Proofs.Ytgjjimpialgojaa.grow w2 d3) := Ext.grow (Ext.refl _) d3
        generalize Go.Proofs.Ytgjjimpialgojaa.grow w2 d3 = G3 at ho3 hg3
        have hs3' := (HS2.out.ext hg3).only ho3 nd1 nd2
        have HX3 := hid (Ext.only (Ext.trans HX2.out hg3) ho3 (fun x hx => by subst hx; exact HQW2.out))
        have HS3 := hid hs3'
        have HSB3 := hid hs3
        clear ho3 hg3 hs3 hs3'
        go_wp2
        go_roundw
        case rel => exact ⟨k + 1, _, by omega, by first | rfl | go_num, HS3, HSB3, HX3⟩
        case measure => first | (simp [intOf]; done) | (simp [intOf]; omega)
      · obtain rfl : k = zs0.length := by omega
        obtain ⟨M, hM⟩ : ∃ M, N = K + M := ⟨N - K, by omega⟩
        have G1 := hid (paintP_go (n := 600) (F := F) (N := N) (P := P) (b := a4) (by omega))
        have G2 : Hid (fineP 600 (16 * (F : Int) + 16 * (K : Int)) (16 * (F : Int) + 16 * (N : Int)) = true ∧ paintP 600 P (16 * (F : Int) + 16 * (K : Int)) (16 * (F : Int) + 16 * (N : Int)) a4 = updR P (F + K) M a4) := hid (by
          have h := paintP_go (n := 600) (F := F + K) (N := M) (P := P) (b := a4) (by omega)
          rw [show 16 * ((F + K : Nat) : Int) = 16 * (F : Int) + 16 * (K : Int) by omega, show 16 * (F : Int) + 16 * (K : Int) + 16 * (M : Int) = 16 * (F : Int) + 16 * (N : Int) by omega] at h
          exact h)
        have G3 := hid (paintP_go (n := 600) (F := F) (N := K) (P := updR P (F + K) M a4) (b := a4) (by omega))
        have E := hid (show updR (updR P (F + K) M a4) F K a4 = updR P F N a4 by rw [updR_parts, hM])
        have hsa := hs.out
        have hsc := hsb.out
        have hX0 := hx.out
        clear hs hsb hx hM hK
        go_wp2_with fail
        refine Calls.mono (paint_any hsa (16 * (F : Int)) (16 * (F : Int) + 16 * (N : Int)) a4) ?_
        rw [G1.out.1, G1.out.2]
        rintro e x1 ⟨rfl, hp1, ho1⟩
        have hk1 := hsc.only ho1 (by omega) (by omega)
        have hX1 := Ext.only hX0 ho1 (fun x hx => by subst hx; exact HQW.out)
        clear ho1 hX0 hsa hsc
        go_wp2_with fail
        refine Calls.mono (paint_any hk1 (16 * (F : Int) + 16 * (K : Int)) (16 * (F : Int) + 16 * (N : Int)) a4) ?_
        rw [G2.out.1, G2.out.2]
        rintro e x2 ⟨rfl, hp2, ho2⟩
        have hk2 := hp1.only ho2 (by omega) (by omega)
        have hX2 := Ext.only hX1 ho2 (fun x hx => by subst hx; exact HQW2.out)
        clear ho2 hX1 hk1 hp1
        go_wp2_with fail
        refine Calls.mono (paint_any hp2 (16 * (F : Int)) (16 * (F : Int) + 16 * (K : Int)) a4) ?_
        rw [G3.out.1, G3.out.2, E.out]
        rintro e x3 ⟨rfl, hp3, ho3⟩
        have hk3 := hk2.only ho3 nd1 nd2
        have hX3 := Ext.only hX2 ho3 (fun x hx => by subst hx; exact HQW2.out)
        clear ho3 hX2 hp2 hk2
        have hrl := rowsP_len (updR P F N a4) 600
        generalize updR P F N a4 = P1 at hp3 hk3 hrl
        obtain ⟨R, hR⟩ : ∃ R, rowsP P1 600 = R := ⟨_, rfl⟩
        rw [hR] at hrl
        have HRR := hid hR
        clear hR
        go_wp2_with fail
        refine Calls.mono (runs_ p q 600 P1 _ hk3) ?_
        rintro e x4 ⟨A4, ca4, rfl, hrd4, hx4, _⟩
        rw [HRR.out] at hrd4 ⊢
        have hp4 := hp3.ext hx4
        have hk4 := hk3.ext hx4
        have hX4 := Ext.trans hX3 hx4
        clear hp3 hk3 hX3 hx4
        go_wp2_with fail
        refine Calls.mono (runs_ pb qb 600 P1 _ hp4) ?_
        rintro e x5 ⟨A5, ca5, rfl, hrd5, hx5, _⟩
        rw [HRR.out] at hrd5 ⊢
        have HRA := hid (hrd4.ext hx5)
        have HRB := hid hrd5
        have HP5 := hid (hp4.ext hx5)
        have HK5 := hid (hk4.ext hx5)
        have HX5 := hid (Ext.trans hX4 hx5)
        clear hp4 hk4 hX4 hx5 hrd4 hrd5
        go_wp2_with fail
        refine Calls.mono (same_ A4 A5 _ ca4 ca5 R _ HRA.out HRB.out rfl (by omega)) ?_
        rintro e x6 ⟨rfl, hx6⟩
        have HP6 := hid (HP5.out.ext hx6)
        have HK6 := hid (HK5.out.ext hx6)
        have HX6 := hid (Ext.trans HX5.out hx6)
        clear hx6
        go_wp2_with fail
        refine Calls.mono (many_ p q 600 P1 _ HK6.out) ?_
        rintro e w' ⟨rfl, rfl⟩
        go_wp2_with fail
        refine Calls.mono (many_ pb qb 600 P1 _ HP6.out) ?_
        rintro e w' ⟨rfl, rfl⟩
        go_wp2
        go_ret
        exact ⟨by first | rfl | (simp; done), HX6.out⟩
  · have h300' : ¬ (zs0.length : Int) ≤ 300 := h300
    go_wp2
    go_ret
    exact ⟨rfl, Ext.trans HXN.out (by repeat (first | (with_reducible exact Ext.refl _) | (with_reducible refine Ext.undrew ?_) | (with_reducible refine Ext.grow ?_ _) | (with_reducible refine Ext.drew ?_) | (with_reducible refine Ext.drewN ?_ _) | (with_reducible refine Ext.alloc ?_ _) | (with_reducible assumption) | ((with_reducible refine Ext.setCell ?_ ?_ _); rotate_left; (first | exact Nat.le_refl _ | ((try dsimp only); (try simp only [World.size_alloc, grow_size, World.size_setCell]); omega)))))⟩
end shadowParts

end Go.Proofs.Ytgjjimpialgojaa
