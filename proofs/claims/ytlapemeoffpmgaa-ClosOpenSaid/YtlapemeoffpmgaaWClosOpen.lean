/- Layer 6: the walk of ClosOpen. -/
import Derived.Test.YtlapemeoffpmgaaCloLw
namespace Go.Proofs.Ytlapemeoffpmgaa
set_option linter.unusedSimpArgs false
set_option linter.unusedVariables false
open Go.RowKit

namespace closOpen
set_option linter.unusedSimpArgs false
set_option linter.unusedVariables false
set_option maxRecDepth 100000 in
set_option maxHeartbeats 8000000 in
theorem walk (A0 : Option Addr) (cap0 : Nat) (zs0 : List Cap) (t1 : Bool) (b1 tp1 at1 pm1 ty1 : Int) (w : World) (wl0 : zs0.length ≤ maxLen) (hs0 : SlAtN w A0 6 (zs0.map Cap.cells)) (wz0 : ∀ z ∈ zs0, wfC z) (wb1 : (Lit.int .i64 b1).wf = true) (wtp1 : (Lit.int .i64 tp1).wf = true) (wat1 : (Lit.int .i64 at1).wf = true) (wpm1 : (Lit.int .i64 pm1).wf = true) (wty1 : (Lit.int .i64 ty1).wf = true) :
    Calls Try.prog 7 #[.slice A0 zs0.length cap0, .agg #[.bool t1, .int .i64 b1, .int .i64 tp1, .int .i64 at1, .int .i64 pm1, .int .i64 ty1]] w fun e w' => e = .returned (.bool true) ∧ Ext w w' := by
  have HA := hid (rdF_of cap_len (by decide) hs0)
  clear hs0
  obtain ⟨m, hm⟩ : ∃ x, zs0.length = x := ⟨_, rfl⟩
  rw [hm]
  have HM := hid hm
  clear hm wl0
  by_cases hb : 40 < m
  · have hb1 : (40 : Int) < (m : Int) := by omega
    go_enter Try.func7, Try.ntmps7
    go_upto_region 1 with (fail)
    refine wp_gen (fun V => Hid (Ext w V) ∧ Hid (Row V (w.heap.size) 0 (Cap.cells (Cap.mk t1 b1 tp1 at1 pm1 ty1)))) ⟨hid (by repeat (first | (with_reducible exact Ext.refl _) | (with_reducible refine Ext.undrew ?_) | (with_reducible refine Ext.grow ?_ _) | (with_reducible refine Ext.drew ?_) | (with_reducible refine Ext.drewN ?_ _) | (with_reducible refine Ext.alloc ?_ _) | (with_reducible assumption) | ((with_reducible refine Ext.setCell ?_ ?_ _); rotate_left; (first | exact Nat.le_refl _ | ((try dsimp only); (try simp only [World.size_alloc, grow_size, World.size_setCell]); omega))))), hid (by have h9 := (Row.new w #[.bool t1, .int .i64 b1, .int .i64 tp1, .int .i64 at1, .int .i64 pm1, .int .i64 ty1] 24); exact h9)⟩ ?_
    rintro V ⟨HB, HR1⟩
    generalize w.heap.size = x1 at HR1 ⊢
    go_wp2_with fail
    refine (head_ _).mono ?_
    rintro e W1 ⟨rfl, hx⟩
    go_wp2
    go_ret
    exact ⟨rfl, HB.out.trans hx⟩
  · have hb1 : ¬ (40 : Int) < (m : Int) := by omega
    go_enter Try.func7, Try.ntmps7
    go_upto_region 1 with (fail)
    refine wp_gen (fun V => Hid (Ext w V) ∧ Hid (Row V (w.heap.size) 0 (Cap.cells (Cap.mk t1 b1 tp1 at1 pm1 ty1)))) ⟨hid (by repeat (first | (with_reducible exact Ext.refl _) | (with_reducible refine Ext.undrew ?_) | (with_reducible refine Ext.grow ?_ _) | (with_reducible refine Ext.drew ?_) | (with_reducible refine Ext.drewN ?_ _) | (with_reducible refine Ext.alloc ?_ _) | (with_reducible assumption) | ((with_reducible refine Ext.setCell ?_ ?_ _); rotate_left; (first | exact Nat.le_refl _ | ((try dsimp only); (try simp only [World.size_alloc, grow_size, World.size_setCell]); omega))))), hid (by have h9 := (Row.new w #[.bool t1, .int .i64 b1, .int .i64 tp1, .int .i64 at1, .int .i64 pm1, .int .i64 ty1] 24); exact h9)⟩ ?_
    rintro V ⟨HB, HR1⟩
    generalize w.heap.size = x1 at HR1 ⊢
    go_wp2_with fail
    refine (head_ _).mono ?_
    rintro e W1 ⟨rfl, hx1⟩
    go_wp2_with fail
    refine (sNew A0 m cap0 zs0 _ (HA.out.ext (HB.out.trans hx1)) HM.out (by omega)).mono ?_
    rintro e W2 ⟨s, out, rfl, HS, HG, hx2⟩
    have HE2 := hid (hx1.trans hx2)
    clear hx1 hx2
    go_wp2_with fail
    refine (sOpen _ HS.out).mono ?_
    rintro e W3 ⟨Ao, co, rfl, HR3, HL3, hx3⟩
    obtain ⟨no, hno⟩ : ∃ x, out.length = x := ⟨_, rfl⟩
    rw [hno] at HL3 ⊢
    have HNO := hid hno
    have hn1 : no ≤ 41 := by have := HL3.out; have := HM.out; omega
    clear hno
    go_wp2_with fail
    refine (sNew Ao no co out _ HR3.out HNO.out (by omega)).mono ?_
    rintro e W4 ⟨s2, out2, rfl, HS2, HG2, hx4⟩
    have ho2 := out_self HG.out HG2.out
    subst ho2
    have HGG := hid HG.out
    clear HG HG2
    go_wp2_with fail
    refine (sOpen _ HS2.out).mono ?_
    rintro e W5 ⟨A5, c5, rfl, HR5, HL5, hx5⟩
    rw [HNO.out] at HL5 ⊢
    have HR35 := hid (HR3.out.ext (hx4.trans hx5))
    go_wp2_with fail
    refine (rsame6_ A5 no c5 out2 Ao no co out2 W5 HR5.out HNO.out HR35.out HNO.out (by omega) (by omega)).mono ?_
    rintro e W6 ⟨he, hx6⟩
    rw [decide_eq_true rfl] at he
    subst he
    have HR6 := hid (HR35.out.ext hx6)
    have HSs := hid (HS.out.ext (hx3.trans (hx4.trans (hx5.trans hx6))))
    have HSt := hid (HS2.out.ext (hx5.trans hx6))
    have HE6 := hid (HE2.out.trans (hx3.trans (hx4.trans (hx5.trans hx6))))
    clear HS HS2 HE2 hx3 hx4 hx5 hx6 HR3 HR5 HR35 HL3 HL5
    go_wp2
    go_loopw [9] (fun i wr => ∃ k : Nat, k ≤ no ∧ i = .int .i64 k ∧ Hid (Ext W6 wr)) (fun i _ => no - (intOf i).toNat)
    case atStart => exact ⟨0, Nat.zero_le _, rfl, hid (Ext.refl _)⟩
    case round =>
      obtain ⟨k, hk, rfl, HX⟩ := hrel
      have hk0 : (0 : Int) ≤ (k : Int) := by omega
      by_cases hlt : k < no
      · have hk1 : (k : Int) < (no : Int) := by omega
        have hkl : k < out2.length := by rw [HNO.out]; exact hlt
        obtain ⟨x, hx⟩ : ∃ x, out2[k] = x := ⟨_, rfl⟩
        have HXI := hid (show x ∈ out2 by rw [← hx]; exact List.getElem_mem hkl)
        have HXA := hid (show ∀ (j : Nat) (hj : j < out2.length), k ≠ j → underR x out2[j] = false from fun j hj hn => by rw [← hx]; exact out_apart HGG.out hkl hj hn)
        obtain ⟨b', o', rfl, hb1, _⟩ := HR6.out.cap hkl x hx
        have HXC := hid (show ∀ W, Ext W6 W → _ from fun W hxx => (HR6.out.ext hxx).cap hkl x hx)
        clear hx hb1
        go_wp2
        go_loopw [10] (fun i wr => ∃ j : Nat, j ≤ no ∧ i = .int .i64 j ∧ Hid (Ext W6 wr)) (fun i _ => no - (intOf i).toNat)
        case atStart => exact ⟨0, Nat.zero_le _, rfl, HX⟩
        case round =>
          clear HX
          obtain ⟨j, hj, rfl, HX⟩ := hrel
          have hj0 : (0 : Int) ≤ (j : Int) := by omega
          by_cases hltj : j < no
          · have hj1 : (j : Int) < (no : Int) := by omega
            have hjl : j < out2.length := by rw [HNO.out]; exact hltj
            by_cases hkj : k = j
            · subst hkj
              go_upto_region 17 with (fail)
              refine wp_region_grow (by kernel_rfl) (by kernel_rfl) (by first | (simp only [List.append]; rfl) | rfl) ?_
              (repeat (go_big_quiet_step (fail)))
              refine wpQuiet_nil ?_
              intro wq hq
              obtain ⟨dq, rfl⟩ := hq
              go_wp2
              go_roundw
              case rel => exact ⟨k + 1, by omega, by go_num, hid (HX.out.trans (by repeat (first | (with_reducible exact Ext.refl _) | (with_reducible refine Ext.undrew ?_) | (with_reducible refine Ext.grow ?_ _) | (with_reducible refine Ext.drew ?_) | (with_reducible refine Ext.drewN ?_ _) | (with_reducible refine Ext.alloc ?_ _) | (with_reducible assumption) | ((with_reducible refine Ext.setCell ?_ ?_ _); rotate_left; (first | exact Nat.le_refl _ | ((try dsimp only); (try simp only [World.size_alloc, grow_size, World.size_setCell]); omega))))))⟩
              case measure => simp [intOf]; omega
            · have hne1 : ¬ (k : Int) = (j : Int) := by omega
              have hne3 : ((k : Int) == (j : Int)) = false := by rw [beq_eq_false_iff_ne]; exact hne1
              have hne4 : ((k : Int) != (j : Int)) = true := by rw [bne, hne3]; rfl
              obtain ⟨y, hy⟩ : ∃ y, out2[j] = y := ⟨_, rfl⟩
              have HU : Hid (∀ W, Ext wr W → Calls Try.prog 23 #[.agg #[.bool x.tag, .int .i64 x.base, .int .i64 x.top, .int .i64 x.at_, .int .i64 x.perms, .int .i64 x.type], .agg #[.bool y.tag, .int .i64 y.base, .int .i64 y.top, .int .i64 y.at_, .int .i64 y.perms, .int .i64 y.type]] W fun e w' => e = .returned (.bool false) ∧ Ext W w') := hid (fun W _ => (rcapUnder x.tag x.base x.top x.at_ x.perms x.type y.tag y.base y.top y.at_ y.perms y.type W).mono fun e w' h => ⟨h.1.trans (congrArg (fun z => Ending.returned (Value.bool z)) (by rw [← hy]; exact HXA.out j hjl hkj)), h.2⟩)
              obtain ⟨bb, oo, ee, hbb, q0, q1, q2, q3, q4, q5⟩ := HXC.out _ HX.out
              simp only [Option.some.injEq, Addr.mk.injEq, and_true] at ee
              obtain ⟨rfl, rfl⟩ := ee
              obtain ⟨bb, oo, ee, hbb2, r0, r1, r2, r3, r4, r5⟩ := (HR6.out.ext HX.out).cap hjl y hy
              simp only [Option.some.injEq, Addr.mk.injEq, and_true] at ee
              obtain ⟨rfl, rfl⟩ := ee
              clear hy
              go_upto_region 17 with (fail)
              refine wp_region_grow (by kernel_rfl) (by kernel_rfl) (by first | (simp only [List.append]; rfl) | rfl) ?_
              (repeat (go_big_quiet_step ((go_at_call 23; exact growOf (HU.out _ (by repeat (first | (with_reducible exact Ext.refl _) | (with_reducible refine Ext.undrew ?_) | (with_reducible refine Ext.grow ?_ _) | (with_reducible refine Ext.drew ?_) | (with_reducible refine Ext.drewN ?_ _) | (with_reducible refine Ext.alloc ?_ _) | (with_reducible assumption) | ((with_reducible refine Ext.setCell ?_ ?_ _); rotate_left; (first | exact Nat.le_refl _ | ((try dsimp only); (try simp only [World.size_alloc, grow_size, World.size_setCell]); omega))))))))))
              refine wpQuiet_nil ?_
              intro wq hq
              obtain ⟨dq, rfl⟩ := hq
              go_wp2
              go_roundw
              case rel => exact ⟨j + 1, by omega, by go_num, hid (HX.out.trans (by repeat (first | (with_reducible exact Ext.refl _) | (with_reducible refine Ext.undrew ?_) | (with_reducible refine Ext.grow ?_ _) | (with_reducible refine Ext.drew ?_) | (with_reducible refine Ext.drewN ?_ _) | (with_reducible refine Ext.alloc ?_ _) | (with_reducible assumption) | ((with_reducible refine Ext.setCell ?_ ?_ _); rotate_left; (first | exact Nat.le_refl _ | ((try dsimp only); (try simp only [World.size_alloc, grow_size, World.size_setCell]); omega))))))⟩
              case measure => simp [intOf]; omega
          · obtain rfl : j = no := by omega
            have hj1 : ¬ (j : Int) < (j : Int) := by omega
            obtain ⟨bb, oo, ee, hbb, q0, q1, q2, q3, q4, q5⟩ := HXC.out _ HX.out
            simp only [Option.some.injEq, Addr.mk.injEq, and_true] at ee
            obtain ⟨rfl, rfl⟩ := ee
            have hx0 : x.type = 0 := (out_nrm HGG.out x HXI.out).2.2.2
            have HXH := hid (show hv zs0 (Cap.mk x.tag x.base x.top x.at_ x.perms x.type) = true from hv_in HGG.out HXI.out)
            have HX0 := hid hx0
            clear hx0
            go_wp2_with fail
            refine (sHas x.tag x.base x.top x.at_ x.perms x.type _ (HSs.out.ext HX.out)).mono ?_
            rintro e W7 ⟨he, hx7⟩
            rw [HXH.out] at he
            subst he
            have HX7 := hid (HX.out.trans hx7)
            clear hx7 HXH q0 q1 q2 q3 q4 q5
            obtain ⟨bb, oo, ee, hbb, q0, q1, q2, q3, q4, q5⟩ := HXC.out _ HX7.out
            simp only [Option.some.injEq, Addr.mk.injEq, and_true] at ee
            obtain ⟨rfl, rfl⟩ := ee
            rw [HX0.out] at q5
            go_wp2
            go_roundw
            case rel => exact ⟨k + 1, by omega, by go_num, HX7⟩
            case measure => simp [intOf]; omega
      · obtain rfl : k = no := by omega
        have hk1 : ¬ (k : Int) < (k : Int) := by omega
        have HRx := hid (HR1.out.ext (HE6.out.trans HX.out))
        by_cases hty : ty1 = 0
        · subst hty
          obtain ⟨p0, p1, p2, p3, p4, p5, p6⟩ := Row.six (c := (Cap.mk t1 b1 tp1 at1 pm1 0)) (HRx.out)
          simp only [Nat.zero_add] at p2 p3 p4 p5 p6
          have HV2 := hid (show hv zs0 (Cap.mk t1 b1 tp1 at1 pm1 0) = hv out2 (Cap.mk t1 b1 tp1 at1 pm1 0) from hv_open HGG.out rfl)
          obtain ⟨v, hvv⟩ : ∃ v, hv zs0 (Cap.mk t1 b1 tp1 at1 pm1 0) = v := ⟨_, rfl⟩
          have HH1 : Hid (∀ W, Ext wr W → Calls Try.prog 13 #[.pointer (some ⟨s, 0, none⟩), .agg #[.bool t1, .int .i64 b1, .int .i64 tp1, .int .i64 at1, .int .i64 pm1, .int .i64 0]] W fun e w' => e = .returned (.bool v) ∧ Ext W w') := hid (fun W hxx => by rw [← hvv]; exact sHas t1 b1 tp1 at1 pm1 0 W (HSs.out.ext (HX.out.trans hxx)))
          have HH2 : Hid (∀ W, Ext wr W → Calls Try.prog 13 #[.pointer (some ⟨s2, 0, none⟩), .agg #[.bool t1, .int .i64 b1, .int .i64 tp1, .int .i64 at1, .int .i64 pm1, .int .i64 0]] W fun e w' => e = .returned (.bool v) ∧ Ext W w') := hid (fun W hxx => by rw [← hvv, HV2.out]; exact sHas t1 b1 tp1 at1 pm1 0 W (HSt.out.ext (HX.out.trans hxx)))
          clear hvv HV2
          cases v
          all_goals
            go_upto_region 21 with (fail)
            refine wp_region_grow (by kernel_rfl) (by kernel_rfl) (by first | (simp only [List.append]; rfl) | rfl) ?_
            (repeat (go_big_quiet_step ((go_at_call 13; first | (with_reducible exact growOf (HH1.out _ (by repeat (first | (with_reducible exact Ext.refl _) | (with_reducible refine Ext.undrew ?_) | (with_reducible refine Ext.grow ?_ _) | (with_reducible refine Ext.drew ?_) | (with_reducible refine Ext.drewN ?_ _) | (with_reducible refine Ext.alloc ?_ _) | (with_reducible assumption) | ((with_reducible refine Ext.setCell ?_ ?_ _); rotate_left; (first | exact Nat.le_refl _ | ((try dsimp only); (try simp only [World.size_alloc, grow_size, World.size_setCell]); omega))))))) | (with_reducible exact growOf (HH2.out _ (by repeat (first | (with_reducible exact Ext.refl _) | (with_reducible refine Ext.undrew ?_) | (with_reducible refine Ext.grow ?_ _) | (with_reducible refine Ext.drew ?_) | (with_reducible refine Ext.drewN ?_ _) | (with_reducible refine Ext.alloc ?_ _) | (with_reducible assumption) | ((with_reducible refine Ext.setCell ?_ ?_ _); rotate_left; (first | exact Nat.le_refl _ | ((try dsimp only); (try simp only [World.size_alloc, grow_size, World.size_setCell]); omega)))))))))))
            refine wpQuiet_nil ?_
            intro wq hq
            obtain ⟨dq, rfl⟩ := hq
            go_wp2
            go_ret
            exact ⟨rfl, HB.out.trans (HE6.out.trans (HX.out.trans (by repeat (first | (with_reducible exact Ext.refl _) | (with_reducible refine Ext.undrew ?_) | (with_reducible refine Ext.grow ?_ _) | (with_reducible refine Ext.drew ?_) | (with_reducible refine Ext.drewN ?_ _) | (with_reducible refine Ext.alloc ?_ _) | (with_reducible assumption) | ((with_reducible refine Ext.setCell ?_ ?_ _); rotate_left; (first | exact Nat.le_refl _ | ((try dsimp only); (try simp only [World.size_alloc, grow_size, World.size_setCell]); omega)))))))⟩
        · have hz1 : (ty1 == 0) = false := by rw [beq_eq_false_iff_ne]; exact hty
          have hz2 : (ty1 != 0) = true := by rw [bne, hz1]; rfl
          obtain ⟨p0, p1, p2, p3, p4, p5, p6⟩ := Row.six (c := (Cap.mk t1 b1 tp1 at1 pm1 ty1)) (HRx.out)
          simp only [Nat.zero_add] at p2 p3 p4 p5 p6
          go_upto_region 21 with (fail)
          refine wp_region_grow (by kernel_rfl) (by kernel_rfl) (by first | (simp only [List.append]; rfl) | rfl) ?_
          (repeat (go_big_quiet_step (fail)))
          refine wpQuiet_nil ?_
          intro wq hq
          obtain ⟨dq, rfl⟩ := hq
          go_wp2
          go_ret
          exact ⟨rfl, HB.out.trans (HE6.out.trans (HX.out.trans (by repeat (first | (with_reducible exact Ext.refl _) | (with_reducible refine Ext.undrew ?_) | (with_reducible refine Ext.grow ?_ _) | (with_reducible refine Ext.drew ?_) | (with_reducible refine Ext.drewN ?_ _) | (with_reducible refine Ext.alloc ?_ _) | (with_reducible assumption) | ((with_reducible refine Ext.setCell ?_ ?_ _); rotate_left; (first | exact Nat.le_refl _ | ((try dsimp only); (try simp only [World.size_alloc, grow_size, World.size_setCell]); omega)))))))⟩
end closOpen

end Go.Proofs.Ytlapemeoffpmgaa
