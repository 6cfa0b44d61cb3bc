/- The walk of the law ShadowPlays. -/
import Derived.Test.YtgjjimpialgojaaShaU
namespace Go.Proofs.Ytgjjimpialgojaa
set_option linter.unusedSimpArgs false
set_option linter.unusedVariables false
open Go.RowKit

namespace shadowPlays
set_option maxRecDepth 100000 in
set_option maxHeartbeats 8000000 in
theorem walk (a0 : Int) (A1 : Option Addr) (cap1 : Nat) (zs1 : List SOp) (a2 : Int) (t3 : Bool) (b3 tp3 at3 pm3 ty3 : Int) (w : World) (w0 : (Lit.int .i64 a0).wf = true) (hs1 : SlAtN w A1 3 (zs1.map SOp.cells)) (hw1 : ∀ z ∈ zs1, wfS z) (w2 : (Lit.int .i64 a2).wf = true) (wb3 : (Lit.int .i64 b3).wf = true) (wtp3 : (Lit.int .i64 tp3).wf = true) (wat3 : (Lit.int .i64 at3).wf = true) (wpm3 : (Lit.int .i64 pm3).wf = true) (wty3 : (Lit.int .i64 ty3).wf = true) :
    Calls Try.prog 3 #[.int .i64 a0, .slice A1 zs1.length cap1, .int .i64 a2, .agg #[.bool t3, .int .i64 b3, .int .i64 tp3, .int .i64 at3, .int .i64 pm3, .int .i64 ty3]] w fun e w' => e = .returned (.bool true) ∧ Ext w w' := by
  have HS0 := hid hs1
  have HW0 := hid hw1
  have HA2 := hid (wfi64 w2).2
  have HB3 := hid (wfi64 wb3).2
  clear hs1 hw1 w2 wb3 wtp3 wat3 wpm3 wty3 w0
  by_cases hg2 : a0 ≤ 2000
  · by_cases h200 : (zs1.length : Int) ≤ 200
    · by_cases hlo : a0 < 1
      · skip
        go_enter Try.func3, Try.ntmps3
        go_wp2_with (first | (go_at_call 8; refine Calls.mono (head _) ?_; rintro e wh ⟨rfl, hxh⟩; obtain ⟨dh, rfl⟩ := hxh.grown; clear hxh) | (go_at_call 9; (with_reducible refine Calls.mono (new_low a0 _ hlo) ?_); rintro e w1 ⟨rfl, rfl⟩) | (go_at_call 10; (with_reducible refine Calls.mono (rnew_low a0 _ hlo) ?_); rintro e w1 ⟨rfl, rfl⟩))
        go_ret
        exact ⟨by first | rfl | (simp; done), (by repeat (first | (with_reducible exact Ext.refl _) | (with_reducible refine Ext.undrew ?_) | (with_reducible refine Ext.grow ?_ _) | (with_reducible refine Ext.drew ?_) | (with_reducible refine Ext.drewN ?_ _) | (with_reducible refine Ext.alloc ?_ _) | (with_reducible assumption) | ((with_reducible refine Ext.setCell ?_ ?_ _); rotate_left; (first | exact Nat.le_refl _ | ((try dsimp only); (try simp only [World.size_alloc, grow_size, World.size_setCell]); omega)))))⟩
      · obtain ⟨n, rfl⟩ := Int.eq_ofNat_of_zero_le (show 0 ≤ a0 by omega)
        have hn1 : 1 ≤ n := by omega
        have hn2 : n ≤ 2000 := by omega
        go_enter Try.func3, Try.ntmps3
        go_wp2_with (go_at_call 8; refine Calls.mono (head _) ?_; rintro e wh ⟨rfl, hxh⟩; obtain ⟨dh, rfl⟩ := hxh.grown; clear hxh)
        have hca : CapAt (Go.Proofs.Ytgjjimpialgojaa.grow (w.alloc (.cells #[.bool t3, .int .i64 b3, .int .i64 tp3, .int .i64 at3, .int .i64 pm3, .int .i64 ty3] 24)) dh) w.heap.size t3 b3 tp3 at3 pm3 ty3 := ⟨by simp [grow_size]; omega, by simp [go_sem], by simp [go_sem], by simp [go_sem], by simp [go_sem], by simp [go_sem], by simp [go_sem]⟩
        have hxh : Ext w (Go.Proofs.Ytgjjimpialgojaa.grow (w.alloc (.cells #[.bool t3, .int .i64 b3, .int .i64 tp3, .int .i64 at3, .int .i64 pm3, .int .i64 ty3] 24)) dh) := (by repeat (first | (with_reducible exact Ext.refl _) | (with_reducible refine Ext.undrew ?_) | (with_reducible refine Ext.grow ?_ _) | (with_reducible refine Ext.drew ?_) | (with_reducible refine Ext.drewN ?_ _) | (with_reducible refine Ext.alloc ?_ _) | (with_reducible assumption) | ((with_reducible refine Ext.setCell ?_ ?_ _); rotate_left; (first | exact Nat.le_refl _ | ((try dsimp only); (try simp only [World.size_alloc, grow_size, World.size_setCell]); omega)))))
        have hlh : w.heap.size < (Go.Proofs.Ytgjjimpialgojaa.grow (w.alloc (.cells #[.bool t3, .int .i64 b3, .int .i64 tp3, .int .i64 at3, .int .i64 pm3, .int .i64 ty3] 24)) dh).heap.size := hca.lt
        generalize (Go.Proofs.Ytgjjimpialgojaa.grow (w.alloc (.cells #[.bool t3, .int .i64 b3, .int .i64 tp3, .int .i64 at3, .int .i64 pm3, .int .i64 ty3] 24)) dh) = W at hca hxh hlh ⊢
        obtain ⟨b7, hb7⟩ : ∃ b7, w.heap.size = b7 := ⟨_, rfl⟩
        rw [hb7] at hca hlh ⊢
        refine Calls.mono (new_ n _ hn1 (by omega)) ?_
        rintro e wn ⟨p, q, rfl, hsn, hxn, hpw, hqw⟩
        have hlp := hsn.ltp
        have hlq := hsn.ltq
        go_wp2_with fail
        refine Calls.mono (rnew_ n _ hn1 (by omega)) ?_
        rintro e wnb ⟨pb, qb, rfl, hsnb, hxnb, hpwb, hqwb⟩
        have nd1 : ¬ p = qb := by omega
        have nd2 : ¬ q = qb := by omega
        have nd3 : ¬ pb = q := by omega
        have nd4 : ¬ qb = q := by omega
        have n71 : ¬ b7 = q := by omega
        have n72 : ¬ b7 = qb := by omega
        have HQW := hid (show w.heap.size ≤ q by omega)
        have HQW2 := hid (show w.heap.size ≤ qb by have := hxn.size; omega)
        have HSN := hid (hsn.ext hxnb)
        have HSB := hid hsnb
        have HCA := hid (hca.ext (Ext.trans hxn hxnb))
        have HXN := hid (Ext.trans hxh (Ext.trans hxn hxnb))
        clear hpw hqw hsn hxn hpwb hqwb hsnb hxnb hlp hlq hca hxh hlh hb7
        go_wp2
        go_loopw [12] (fun iv wr => ∃ (k : Nat) (P : Nat → Bool), k ≤ zs1.length ∧ iv = .int .i64 (k : Int) ∧ Hid (Sh wr p q n P) ∧ Hid (Rf wr pb qb n P) ∧ Hid (CapAt wr b7 t3 b3 tp3 at3 pm3 ty3) ∧ Hid (Ext w wr)) (fun iv _ => zs1.length - (intOf iv).toNat)
        case atStart => exact ⟨0, fun _ => false, Nat.zero_le _, rfl, HSN, HSB, HCA, HXN⟩
        case round =>
          obtain ⟨k, P, hk, rfl, hs, hsb, hca, hx⟩ := hrel
          by_cases hlt : k < zs1.length
          · obtain ⟨z, hz⟩ : ∃ z, zs1[k] = z := ⟨_, rfl⟩
            obtain ⟨f, t, b⟩ := z
            obtain ⟨bb, oo, hA, hbw, _⟩ := op_at HS0.out hlt _ hz
            obtain ⟨b2, o2, rfl, hb, c0, c1, c2⟩ := op_at (HS0.out.ext hx.out) hlt _ hz
            cases hA
            simp only at c0 c1 c2
            have hk0 : (0 : Int) ≤ (k : Int) := by omega
            have hk1 : (k : Int) < (zs1.length : Int) := by omega
            have hqr : q < wr.heap.size := hs.out.ltq
            have hnq : ¬ bb = q := by have := HQW.out; omega
            have hnq2 : ¬ q = bb := fun e => hnq e.symm
            have hnb : ¬ bb = qb := by have := HQW2.out; omega
            have hnb2 : ¬ qb = bb := fun e => hnb e.symm
            obtain ⟨FV, hfv⟩ : ∃ FV, fineP n f t = FV := ⟨_, rfl⟩
            have HF := hid hfv
            clear hfv
            go_wp2_with fail
            refine wp_region_turn (q := q) (.rd 0 (.rd 1 (.rd 2 (.rd 3 (.rd 4 (.rd 5 (.rd 6 (.rd 7 (.rd 8 (.rd 9 (.rd 10 (.rd 11 (.rd 12 (.rd 13 (.rd 14 (.rd 15 (.ac 16 (.rd 17 .done)))))))))))))))))) (by kernel_rfl) (by kernel_rfl) (fun _ _ d _ _ h => by cases d <;> exact h) (by simp only [Ord.map, nthOp, List.append]; rfl) ?_
            intro d2
            repeat (refine turn_read (by rfl) (fun Z hZ => ?_); go_big_quiet_op; refine hZ _ ?_; clear hZ Z)
            refine turn_act (by rfl) (fun Z hZ => ?_)
            go_wp2_with fail
            refine Calls.mono (paint_any (hs.out.ext (Ext.grow (Ext.refl _) d2)) f t b) ?_
            rw [HF.out]
            rintro e w2 ⟨rfl, hs2, ho2⟩
            go_wp2_with fail
            refine ⟨_, Only.refl _ _, ho2, ?_⟩
            refine turn_read (by rfl) (fun Z hZ => ?_)
            go_big_quiet_op
            refine hZ _ ?_
            clear hZ Z
            refine turn_nil ?_
            have hg2 : Ext wr (Go.Proofs.Ytgjjimpialgojaa.grow wr d2) := Ext.grow (Ext.refl _) d2
            generalize Go.Proofs.Ytgjjimpialgojaa.grow wr d2 = G2 at ho2 hg2
            have hsb2 := (hsb.out.ext hg2).only ho2 nd3 nd4
            have hca2 := (hca.out.ext hg2).only ho2 n71
            have HX2 := hid (Ext.only (Ext.trans hx.out hg2) ho2 (fun x hx => by subst hx; exact HQW.out))
            have HS2 := hid hs2
            have HSB2 := hid hsb2
            have HCA2 := hid hca2
            have hqr2 : qb < w2.heap.size := hsb2.ltq
            replace c0 := (ho2.cells bb _ (Nat.lt_of_lt_of_le hb hg2.size) hnq).trans ((hg2.cells bb _ hb).trans c0)
            replace c1 := (ho2.cells bb _ (Nat.lt_of_lt_of_le hb hg2.size) hnq).trans ((hg2.cells bb _ hb).trans c1)
            replace c2 := (ho2.cells bb _ (Nat.lt_of_lt_of_le hb hg2.size) hnq).trans ((hg2.cells bb _ hb).trans c2)
            replace hb := Nat.lt_of_lt_of_le (Nat.lt_of_lt_of_le hb hg2.size) ho2.size
            clear ho2 hg2 hs2 hsb2 hca2 hs hsb hx hca
            go_wp2_with fail
            refine wp_region_turn (q := qb) (.rd 0 (.rd 1 (.rd 2 (.rd 3 (.rd 4 (.rd 5 (.rd 6 (.rd 7 (.rd 8 (.rd 9 (.rd 10 (.rd 11 (.rd 12 (.rd 13 (.rd 14 (.rd 15 (.ac 16 (.rd 17 .done)))))))))))))))))) (by kernel_rfl) (by kernel_rfl) (fun _ _ d _ _ h => by cases d <;> exact h) (by simp only [Ord.map, nthOp, List.append]; rfl) ?_
            intro d3
            repeat (refine turn_read (by rfl) (fun Z hZ => ?_); go_big_quiet_op; refine hZ _ ?_; clear hZ Z)
            refine turn_act (by rfl) (fun Z hZ => ?_)
            go_wp2_with fail
            refine Calls.mono (rpaint_any (HSB2.out.ext (Ext.grow (Ext.refl _) d3)) f t b) ?_
            rw [HF.out]
            rintro e w3 ⟨rfl, hs3, ho3⟩
            go_wp2_with fail
            refine ⟨_, Only.refl _ _, ho3, ?_⟩
            refine turn_read (by rfl) (fun Z hZ => ?_)
            go_big_quiet_op
            refine hZ _ ?_
            clear hZ Z
            refine turn_nil ?_
            have hg3 : Ext w2 (Go.Proofs.Ytgjjimpialgojaa.grow w2 d3) := Ext.grow (Ext.refl _) d3
            generalize Go.Proofs.Ytgjjimpialgojaa.grow w2 d3 = G3 at ho3 hg3
            have hs3' := (HS2.out.ext hg3).only ho3 nd1 nd2
            have hca3 := (HCA2.out.ext hg3).only ho3 n72
            have HX3 := hid (Ext.only (Ext.trans HX2.out hg3) ho3 (fun x hx => by subst hx; exact HQW2.out))
            have HS3 := hid hs3'
            have HSB3 := hid hs3
            have HCA3 := hid hca3
            obtain ⟨l7, k0, k1, k2, k3, k4, k5⟩ := hca3
            clear ho3 hg3 hs3 hs3' c0 c1 c2 hb hbw
            generalize paintP n P f t b = P1 at HS3 HSB3
            obtain ⟨M1, hm⟩ : ∃ x, cnt P1 n = x := ⟨_, rfl⟩
            obtain ⟨I1, hi⟩ : ∃ x, isP n P1 a2 = x := ⟨_, rfl⟩
            obtain ⟨H1, hh⟩ : ∃ x, hitsP n P1 t3 b3 tp3 = x := ⟨_, rfl⟩
            have HM := hid hm
            have HI := hid hi
            have HH := hid hh
            clear hm hi hh
            go_wp2_with fail
            refine wp_region_step (.rd 0 (.rd 1 (.rd 2 (.rd 3 (.rd 4 (.rd 6 (.ac 5 (.ac 7 (.rd 8 (.rd 9 (.rd 10 (.rd 11 (.rd 12 (.rd 14 (.rd 15 (.ac 13 (.ac 16 (.rd 17 (.rd 18 (.rd 19 (.rd 20 (.rd 21 (.rd 23 (.rd 24 (.ac 22 (.ac 25 (.rd 26 (.rd 27 .done)))))))))))))))))))))))))))) (by kernel_rfl) (by kernel_rfl) (fun _ _ d _ _ h => by cases d <;> exact h) (by simp only [Ord.map, nthOp, List.append]; rfl) ?_
            intro d0
            repeat' (first | (refine step_read (by rfl) (fun K hK => ?_); go_big_quiet_op; refine hK _ ?_; clear hK K) | (refine step_act (by rfl) (fun K hK => ?_); go_wp2_with (first | (go_at_call 13; (with_reducible refine Calls.mono (many_ p q n P1 _ (HS3.out.ext (by repeat (first | (with_reducible exact Ext.refl _) | (with_reducible refine Ext.undrew ?_) | (with_reducible refine Ext.grow ?_ _) | (with_reducible refine Ext.drew ?_) | (with_reducible refine Ext.drewN ?_ _) | (with_reducible refine Ext.alloc ?_ _) | (with_reducible assumption) | ((with_reducible refine Ext.setCell ?_ ?_ _); rotate_left; (first | exact Nat.le_refl _ | ((try dsimp only); (try simp only [World.size_alloc, grow_size, World.size_setCell]); omega))))))) ?_); rw [HM.out]; rintro e w1 ⟨rfl, rfl⟩) | (go_at_call 14; (with_reducible refine Calls.mono (rmany_ pb qb n P1 _ (HSB3.out.ext (by repeat (first | (with_reducible exact Ext.refl _) | (with_reducible refine Ext.undrew ?_) | (with_reducible refine Ext.grow ?_ _) | (with_reducible refine Ext.drew ?_) | (with_reducible refine Ext.drewN ?_ _) | (with_reducible refine Ext.alloc ?_ _) | (with_reducible assumption) | ((with_reducible refine Ext.setCell ?_ ?_ _); rotate_left; (first | exact Nat.le_refl _ | ((try dsimp only); (try simp only [World.size_alloc, grow_size, World.size_setCell]); omega))))))) ?_); rw [HM.out]; rintro e w1 ⟨rfl, rfl⟩) | (go_at_call 15; (with_reducible refine Calls.mono (is_ (HS3.out.ext (by repeat (first | (with_reducible exact Ext.refl _) | (with_reducible refine Ext.undrew ?_) | (with_reducible refine Ext.grow ?_ _) | (with_reducible refine Ext.drew ?_) | (with_reducible refine Ext.drewN ?_ _) | (with_reducible refine Ext.alloc ?_ _) | (with_reducible assumption) | ((with_reducible refine Ext.setCell ?_ ?_ _); rotate_left; (first | exact Nat.le_refl _ | ((try dsimp only); (try simp only [World.size_alloc, grow_size, World.size_setCell]); omega)))))) a2 HA2.out) ?_); rw [HI.out]; rintro e w1 ⟨rfl, rfl⟩) | (go_at_call 16; (with_reducible refine Calls.mono (ris_ (HSB3.out.ext (by repeat (first | (with_reducible exact Ext.refl _) | (with_reducible refine Ext.undrew ?_) | (with_reducible refine Ext.grow ?_ _) | (with_reducible refine Ext.drew ?_) | (with_reducible refine Ext.drewN ?_ _) | (with_reducible refine Ext.alloc ?_ _) | (with_reducible assumption) | ((with_reducible refine Ext.setCell ?_ ?_ _); rotate_left; (first | exact Nat.le_refl _ | ((try dsimp only); (try simp only [World.size_alloc, grow_size, World.size_setCell]); omega)))))) a2 HA2.out) ?_); rw [HI.out]; rintro e w1 ⟨rfl, rfl⟩) | (go_at_call 17; (with_reducible refine Calls.mono (hits_ p q n P1 t3 b3 tp3 at3 pm3 ty3 _ (HS3.out.ext (by repeat (first | (with_reducible exact Ext.refl _) | (with_reducible refine Ext.undrew ?_) | (with_reducible refine Ext.grow ?_ _) | (with_reducible refine Ext.drew ?_) | (with_reducible refine Ext.drewN ?_ _) | (with_reducible refine Ext.alloc ?_ _) | (with_reducible assumption) | ((with_reducible refine Ext.setCell ?_ ?_ _); rotate_left; (first | exact Nat.le_refl _ | ((try dsimp only); (try simp only [World.size_alloc, grow_size, World.size_setCell]); omega)))))) HB3.out) ?_); rw [HH.out]; rintro e w' ⟨rfl, hy⟩; obtain ⟨dx, rfl⟩ := hy.grown; clear hy) | (go_at_call 18; (with_reducible refine Calls.mono (rhits_ pb qb n P1 t3 b3 tp3 at3 pm3 ty3 _ (HSB3.out.ext (by repeat (first | (with_reducible exact Ext.refl _) | (with_reducible refine Ext.undrew ?_) | (with_reducible refine Ext.grow ?_ _) | (with_reducible refine Ext.drew ?_) | (with_reducible refine Ext.drewN ?_ _) | (with_reducible refine Ext.alloc ?_ _) | (with_reducible assumption) | ((with_reducible refine Ext.setCell ?_ ?_ _); rotate_left; (first | exact Nat.le_refl _ | ((try dsimp only); (try simp only [World.size_alloc, grow_size, World.size_setCell]); omega)))))) HB3.out) ?_); rw [HH.out]; rintro e w' ⟨rfl, hy⟩; obtain ⟨dx, rfl⟩ := hy.grown; clear hy)); refine ⟨_, (by repeat (first | (with_reducible exact Ext.refl _) | (with_reducible refine Ext.undrew ?_) | (with_reducible refine Ext.grow ?_ _) | (with_reducible refine Ext.drew ?_) | (with_reducible refine Ext.drewN ?_ _) | (with_reducible refine Ext.alloc ?_ _) | (with_reducible assumption) | ((with_reducible refine Ext.setCell ?_ ?_ _); rotate_left; (first | exact Nat.le_refl _ | ((try dsimp only); (try simp only [World.size_alloc, grow_size, World.size_setCell]); omega))))), Ext.refl _, ?_⟩) | refine step_br ?_ ?_)
            all_goals refine step_nil ?_
            go_wp2
            go_roundw
            case rel => exact ⟨k + 1, P1, by omega, by first | rfl | go_num, hid (HS3.out.ext (by repeat (first | (with_reducible exact Ext.refl _) | (with_reducible refine Ext.undrew ?_) | (with_reducible refine Ext.grow ?_ _) | (with_reducible refine Ext.drew ?_) | (with_reducible refine Ext.drewN ?_ _) | (with_reducible refine Ext.alloc ?_ _) | (with_reducible assumption) | ((with_reducible refine Ext.setCell ?_ ?_ _); rotate_left; (first | exact Nat.le_refl _ | ((try dsimp only); (try simp only [World.size_alloc, grow_size, World.size_setCell]); omega)))))), hid (HSB3.out.ext (by repeat (first | (with_reducible exact Ext.refl _) | (with_reducible refine Ext.undrew ?_) | (with_reducible refine Ext.grow ?_ _) | (with_reducible refine Ext.drew ?_) | (with_reducible refine Ext.drewN ?_ _) | (with_reducible refine Ext.alloc ?_ _) | (with_reducible assumption) | ((with_reducible refine Ext.setCell ?_ ?_ _); rotate_left; (first | exact Nat.le_refl _ | ((try dsimp only); (try simp only [World.size_alloc, grow_size, World.size_setCell]); omega)))))), hid (HCA3.out.ext (by repeat (first | (with_reducible exact Ext.refl _) | (with_reducible refine Ext.undrew ?_) | (with_reducible refine Ext.grow ?_ _) | (with_reducible refine Ext.drew ?_) | (with_reducible refine Ext.drewN ?_ _) | (with_reducible refine Ext.alloc ?_ _) | (with_reducible assumption) | ((with_reducible refine Ext.setCell ?_ ?_ _); rotate_left; (first | exact Nat.le_refl _ | ((try dsimp only); (try simp only [World.size_alloc, grow_size, World.size_setCell]); omega)))))), hid (Ext.trans HX3.out (by repeat (first | (with_reducible exact Ext.refl _) | (with_reducible refine Ext.undrew ?_) | (with_reducible refine Ext.grow ?_ _) | (with_reducible refine Ext.drew ?_) | (with_reducible refine Ext.drewN ?_ _) | (with_reducible refine Ext.alloc ?_ _) | (with_reducible assumption) | ((with_reducible refine Ext.setCell ?_ ?_ _); rotate_left; (first | exact Nat.le_refl _ | ((try dsimp only); (try simp only [World.size_alloc, grow_size, World.size_setCell]); omega))))))⟩
            case measure => first | (simp [intOf]; done) | (simp [intOf]; omega)
          · obtain rfl : k = zs1.length := by omega
            have HS := hs
            have HSBB := hsb
            have hrl := rowsP_len P n
            obtain ⟨R, hR⟩ : ∃ R, rowsP P n = R := ⟨_, rfl⟩
            rw [hR] at hrl
            have HRR := hid hR
            clear hR
            go_wp2_with fail
            refine Calls.mono (runs_ p q n P _ HS.out) ?_
            rintro e x4 ⟨A4, ca4, rfl, hrd4, hx4, _⟩
            rw [HRR.out] at hrd4 ⊢
            have hsb4 := HSBB.out.ext hx4
            have hX4 := Ext.trans hx.out hx4
            clear hx4
            go_wp2_with fail
            refine Calls.mono (rruns_ pb qb n P _ hsb4) ?_
            rintro e x5 ⟨A5, ca5, rfl, hrd5, hx5, _⟩
            rw [HRR.out] at hrd5 ⊢
            have HRA := hid (hrd4.ext hx5)
            have HRB := hid hrd5
            have HX5 := hid (Ext.trans hX4 hx5)
            clear hsb4 hX4 hx5 hrd4 hrd5
            go_wp2_with fail
            refine Calls.mono (same_ A4 A5 _ ca4 ca5 R _ HRA.out HRB.out rfl (by omega)) ?_
            rintro e x6 ⟨rfl, hx6⟩
            have HX6 := hid (Ext.trans HX5.out hx6)
            clear hx6
            go_wp2
            go_ret
            exact ⟨by first | rfl | (simp; done), HX6.out⟩
    · have h200' : ¬ (zs1.length : Int) ≤ 200 := h200
      go_enter Try.func3, Try.ntmps3
      go_wp2_with (go_at_call 8; refine Calls.mono (head _) ?_; rintro e wh ⟨rfl, hxh⟩; obtain ⟨dh, rfl⟩ := hxh.grown; clear hxh)
      go_ret
      exact ⟨rfl, (by repeat (first | (with_reducible exact Ext.refl _) | (with_reducible refine Ext.undrew ?_) | (with_reducible refine Ext.grow ?_ _) | (with_reducible refine Ext.drew ?_) | (with_reducible refine Ext.drewN ?_ _) | (with_reducible refine Ext.alloc ?_ _) | (with_reducible assumption) | ((with_reducible refine Ext.setCell ?_ ?_ _); rotate_left; (first | exact Nat.le_refl _ | ((try dsimp only); (try simp only [World.size_alloc, grow_size, World.size_setCell]); omega)))))⟩
  · skip
    go_enter Try.func3, Try.ntmps3
    go_wp2_with (go_at_call 8; refine Calls.mono (head _) ?_; rintro e wh ⟨rfl, hxh⟩; obtain ⟨dh, rfl⟩ := hxh.grown; clear hxh)
    go_ret
    exact ⟨rfl, (by repeat (first | (with_reducible exact Ext.refl _) | (with_reducible refine Ext.undrew ?_) | (with_reducible refine Ext.grow ?_ _) | (with_reducible refine Ext.drew ?_) | (with_reducible refine Ext.drewN ?_ _) | (with_reducible refine Ext.alloc ?_ _) | (with_reducible assumption) | ((with_reducible refine Ext.setCell ?_ ?_ _); rotate_left; (first | exact Nat.le_refl _ | ((try dsimp only); (try simp only [World.size_alloc, grow_size, World.size_setCell]); omega)))))⟩
end shadowPlays

end Go.Proofs.Ytgjjimpialgojaa
