/- Layer 6: the walk of ClosTypes. -/
import Derived.Test.YtlapemeoffpmgaaCloLw
namespace Go.Proofs.Ytlapemeoffpmgaa
set_option linter.unusedSimpArgs false
set_option linter.unusedVariables false
open Go.RowKit

theorem wf8 {n : Int} (h : (Lit.int .u8 n).wf = true) : 0 ≤ n ∧ n ≤ 255 := by
  simpa [Lit.wf, IntKind.min, IntKind.max, IntKind.signed, IntKind.bits] using h
theorem by_under {o : Cap} (ho : rightC o = true) {t : Int} (h0 : 2 ≤ t) (h1 : t ≤ 255) : underC ⟨true, t, t + 1, t, 32, 0⟩ o = authC o 32 t := by
  rw [Bool.eq_iff_iff]
  simp only [underC, extUnder, authC, holdsB, Bool.and_eq_true, decide_eq_true_eq]
  constructor
  · rintro ⟨⟨⟨⟨a, b⟩, ⟨c, d⟩⟩, e⟩, f⟩
    exact ⟨f, inC_of ho ⟨by omega, a, d⟩⟩
  · rintro ⟨f, g⟩
    have := inC_nums ho g
    exact ⟨⟨⟨⟨by omega, by omega⟩, ⟨by omega, by omega⟩⟩, by omega⟩, f⟩
theorem hv_by {l out : List Cap} (h : GrtL (Opn (grantsC l)) out) {t : Int} (h0 : 2 ≤ t) (h1 : t ≤ 255) : hv l ⟨true, t, t + 1, t, 32, 0⟩ = (tyN out 32).any fun k : Nat => (k : Int) == t := by
  unfold hv
  rw [has_type0 (setV l) rfl, ty_grt (setV l).nrm (grt_found h) 32]
  have hr : rightC ⟨true, t, t + 1, t, 32, 0⟩ = true := rightC_mk ⟨by simp only; omega, by simp only; omega, by simp only; omega, by simp only; omega, by simp only; omega, by simp only; omega, by show (0 : Int) ≤ 32; decide, by show (32 : Int) ≤ 127; decide, by show (0 : Int) ≤ 0; decide, by show (0 : Int) ≤ 255; decide, fun _ => by simp only; omega⟩
  rw [hr, Bool.true_and]
  show (false || _) = _
  rw [Bool.false_or, Bool.eq_iff_iff, List.any_eq_true, List.any_eq_true]
  constructor
  · rintro ⟨o, ho, hu⟩
    rw [by_under ((setV l).nrm o ho).2.1 h0 h1] at hu
    have e : ((t.toNat : Nat) : Int) = t := by omega
    refine ⟨t.toNat, List.mem_filter.2 ⟨List.mem_range.2 (by omega), ?_⟩, by rw [e]; simp⟩
    simp only [Bool.and_eq_true, decide_eq_true_eq]
    exact ⟨by omega, List.any_eq_true.2 ⟨o, ho, by rw [e]; exact hu⟩⟩
  · rintro ⟨k, hk, e⟩
    have e2 : (k : Int) = t := by simpa using e
    obtain ⟨_, h3⟩ := List.mem_filter.1 hk
    simp only [Bool.and_eq_true, decide_eq_true_eq] at h3
    obtain ⟨o, ho, ha⟩ := List.any_eq_true.1 h3.2
    rw [e2] at ha
    exact ⟨o, ho, by rw [by_under ((setV l).nrm o ho).2.1 h0 h1]; exact ha⟩
theorem tyN_rise (O : List Cap) (p : Int) : (tyN O p).Pairwise (· < ·) := List.Pairwise.filter _ List.pairwise_lt_range
theorem tyN_bd {O : List Cap} {p : Int} {x : Nat} (h : x ∈ tyN O p) : 2 ≤ x ∧ x < 256 := by
  obtain ⟨h1, h2⟩ := List.mem_filter.1 h
  simp only [Bool.and_eq_true, decide_eq_true_eq] at h2
  exact ⟨h2.1, List.mem_range.1 h1⟩
namespace closTypes
set_option linter.unusedSimpArgs false
set_option linter.unusedVariables false
set_option maxRecDepth 100000 in
set_option maxHeartbeats 8000000 in
theorem walk (A0 : Option Addr) (cap0 : Nat) (zs0 : List Cap) (a1 : Int) (w : World) (wl0 : zs0.length ≤ maxLen) (hs0 : SlAtN w A0 6 (zs0.map Cap.cells)) (wz0 : ∀ z ∈ zs0, wfC z) (w1 : (Lit.int .u8 a1).wf = true) :
    Calls Try.prog 8 #[.slice A0 zs0.length cap0, .int .u8 a1] w fun e w' => e = .returned (.bool true) ∧ Ext w w' := by
  have HA := hid (rdF_of cap_len (by decide) hs0)
  clear hs0
  obtain ⟨m, hm⟩ : ∃ x, zs0.length = x := ⟨_, rfl⟩
  rw [hm]
  have HM := hid hm
  clear hm wl0
  by_cases hb : 40 < m
  · have hb1 : (40 : Int) < (m : Int) := by omega
    go_enter Try.func8, Try.ntmps8
    go_upto_region 1 with (fail)
    refine wp_gen (fun V => Hid (Ext w V)) (hid (by repeat (first | (with_reducible exact Ext.refl _) | (with_reducible refine Ext.undrew ?_) | (with_reducible refine Ext.grow ?_ _) | (with_reducible refine Ext.drew ?_) | (with_reducible refine Ext.drewN ?_ _) | (with_reducible refine Ext.alloc ?_ _) | (with_reducible assumption) | ((with_reducible refine Ext.setCell ?_ ?_ _); rotate_left; (first | exact Nat.le_refl _ | ((try dsimp only); (try simp only [World.size_alloc, grow_size, World.size_setCell]); omega)))))) ?_
    rintro V HB
    go_wp2_with fail
    refine (head_ _).mono ?_
    rintro e W1 ⟨rfl, hx⟩
    go_wp2
    go_ret
    exact ⟨rfl, HB.out.trans hx⟩
  · have hb1 : ¬ (40 : Int) < (m : Int) := by omega
    go_enter Try.func8, Try.ntmps8
    go_upto_region 1 with (fail)
    refine wp_gen (fun V => Hid (Ext w V)) (hid (by repeat (first | (with_reducible exact Ext.refl _) | (with_reducible refine Ext.undrew ?_) | (with_reducible refine Ext.grow ?_ _) | (with_reducible refine Ext.drew ?_) | (with_reducible refine Ext.drewN ?_ _) | (with_reducible refine Ext.alloc ?_ _) | (with_reducible assumption) | ((with_reducible refine Ext.setCell ?_ ?_ _); rotate_left; (first | exact Nat.le_refl _ | ((try dsimp only); (try simp only [World.size_alloc, grow_size, World.size_setCell]); omega)))))) ?_
    rintro V HB
    go_wp2_with fail
    refine (head_ _).mono ?_
    rintro e W1 ⟨rfl, hx1⟩
    go_wp2_with fail
    refine (sNew A0 m cap0 zs0 _ (HA.out.ext (HB.out.trans hx1)) HM.out (by omega)).mono ?_
    rintro e W2 ⟨s, out, rfl, HS, HG, hx2⟩
    have HE2 := hid (hx1.trans hx2)
    clear hx1 hx2
    go_wp2_with fail
    refine (sTypes 32 _ HS.out).mono ?_
    rintro e W3 ⟨At, ct, mt, rfl, hmt, HRT, hx3⟩
    have HS3 := hid (HS.out.ext hx3)
    have HE3 := hid (HE2.out.trans hx3)
    have HBY := hid (show 2 ≤ a1 → hv zs0 (Cap.mk true a1 (a1 + 1) a1 32 0) = (tyN out 32).any (fun x : Nat => (x : Int) == a1) from fun h => hv_by HG.out h (wf8 w1).2)
    have HTS := hid (tyN_rise out 32)
    have HTB := hid (show ∀ x ∈ tyN out 32, 2 ≤ x ∧ x < 256 from fun x hx => tyN_bd hx)
    have HWR := hid (show wrap64 a1 = a1 from wrap64_id (by have := wf8 w1; omega) (by have := wf8 w1; omega))
    have HWR2 := hid (show wrap64 (a1 + 1) = a1 + 1 from wrap64_id (by have := wf8 w1; omega) (by have := wf8 w1; omega))
    generalize tyN out 32 = T at hmt HRT HBY HTS HTB
    have HMT := hid hmt
    have hmt2 : mt ≤ 256 := by rw [← hmt, ← List.length_range (n := 256)]; exact List.Nodup.length_le_of_subset (HTS.out.imp fun h => Nat.ne_of_lt h) fun x hx => List.mem_range.2 (HTB.out x hx).2
    clear hmt hx3 HS HE2 HG
    go_wp2
    go_loopw [8, 9] (fun b i wr => ∃ k : Nat, k ≤ mt ∧ i = .int .i64 k ∧ b = .bool ((T.take k).any (fun x : Nat => (x : Int) == a1)) ∧ Hid (Ext W3 wr)) (fun _ i _ => mt - (intOf i).toNat)
    case atStart => exact ⟨0, Nat.zero_le _, rfl, rfl, hid (Ext.refl _)⟩
    case round =>
      obtain ⟨k, hk, rfl, rfl, HX⟩ := hrel
      have hk0 : (0 : Int) ≤ (k : Int) := by omega
      by_cases hlt : k < mt
      · have hk1 : (k : Int) < (mt : Int) := by omega
        have hkl : k < T.length := by rw [HMT.out]; exact hlt
        obtain ⟨x, hx⟩ : ∃ x, T[k] = x := ⟨_, rfl⟩
        have hxb := HTB.out x (by rw [← hx]; exact List.getElem_mem hkl)
        have HV := hid (show (T.take (k + 1)).any (fun x : Nat => (x : Int) == a1) = ((T.take k).any (fun x : Nat => (x : Int) == a1) || ((x : Int) == a1)) by rw [List.take_succ_eq_append_getElem hkl, List.any_append, hx]; simp)
        generalize (T.take k).any (fun x : Nat => (x : Int) == a1) = v at HV ⊢
        obtain ⟨b', o', rfl, hb1, hrg⟩ := (HRT.out.ext HX.out).elem intF_len hkl x hx
        have hc := hrg 0 (.int .i64 x) rfl
        simp only [Nat.mul_one, Nat.add_zero] at hc
        clear hrg
        have d1 : decide ((x : Int) < 2) = false := decide_eq_false (by omega)
        have d2 : decide ((x : Int) > 255) = false := decide_eq_false (by omega)
        have d3 : decide ((255 : Int) < (x : Int)) = false := d2
        have e1 : ¬ (x : Int) < 2 := by omega
        have e2 : ¬ (x : Int) > 255 := by omega
        by_cases h0 : k = 0
        · have d5 : decide ((k : Int) > 0) = false := decide_eq_false (by omega)
          have d6 : decide (0 < k) = false := decide_eq_false (by omega)
          have e5 : ¬ (k : Int) > 0 := by omega
          have e6 : ¬ 0 < k := by omega
          clear hx h0
          go_upto_region 12 with (fail)
          refine wp_region_grow (by kernel_rfl) (by kernel_rfl) (by first | (simp only [List.append]; rfl) | rfl) ?_
          (repeat (go_big_quiet_step (fail)))
          refine wpQuiet_nil ?_
          intro wq hq
          obtain ⟨dq, rfl⟩ := hq
          go_upto_region 14 with (fail)
          refine wp_gen (fun W => Hid (Ext wr W)) (hid (by repeat (first | (with_reducible exact Ext.refl _) | (with_reducible refine Ext.grow ?_ _) | (with_reducible refine Ext.drew ?_)))) ?_
          rintro W8 hx8
          have q0 := (hx8.out.cells b' _ hb1).trans hc
          have HX8 := hid (HX.out.trans hx8.out)
          clear hc hx8
          cases v with
          | true =>
            go_wp2
            go_roundw
            case rel => exact ⟨k + 1, by omega, by go_num, by rw [HV.out]; rfl, HX8⟩
            case measure => simp [intOf]; omega
          | false =>
            cases hq : ((x : Int) == a1) with
            | true =>
              rw [hq] at HV
              go_wp2
              go_roundw
              case rel => exact ⟨k + 1, by omega, by go_num, by rw [HV.out, HWR.out, hq]; rfl, HX8⟩
              case measure => simp [intOf]; omega
            | false =>
              rw [hq] at HV
              go_wp2
              go_roundw
              case rel => exact ⟨k + 1, by omega, by go_num, by rw [HV.out, HWR.out, hq]; rfl, HX8⟩
              case measure => simp [intOf]; omega
        · obtain ⟨j, rfl⟩ : ∃ j, k = j + 1 := ⟨k - 1, by omega⟩
          have hjl : j < T.length := by omega
          obtain ⟨y, hy⟩ : ∃ y, T[j] = y := ⟨_, rfl⟩
          have hyx : y < x := by rw [← hx, ← hy]; exact (List.pairwise_iff_getElem.1 HTS.out) j (j + 1) hjl hkl (by omega)
          obtain ⟨b2, o2, ee, hb2, hrg⟩ := (HRT.out.ext HX.out).elem intF_len hjl y hy
          simp only [Option.some.injEq, Addr.mk.injEq, and_true] at ee
          obtain ⟨rfl, rfl⟩ := ee
          have hcj := hrg 0 (.int .i64 y) rfl
          simp only [Nat.mul_one, Nat.add_zero] at hcj
          clear hrg hx hy
          have d4 : decide ((x : Int) ≤ (y : Int)) = false := decide_eq_false (by omega)
          have e4 : ¬ (x : Int) ≤ (y : Int) := by omega
          have hj0 : (0 : Int) ≤ (j : Int) := by omega
          have hj1 : (j : Int) < (mt : Int) := by omega
          go_upto_region 12 with (fail)
          refine wp_region_grow (by kernel_rfl) (by kernel_rfl) (by first | (simp only [List.append]; rfl) | rfl) ?_
          (repeat (go_big_quiet_step (fail)))
          refine wpQuiet_nil ?_
          intro wq hq
          obtain ⟨dq, rfl⟩ := hq
          go_upto_region 14 with (fail)
          refine wp_gen (fun W => Hid (Ext wr W)) (hid (by repeat (first | (with_reducible exact Ext.refl _) | (with_reducible refine Ext.grow ?_ _) | (with_reducible refine Ext.drew ?_)))) ?_
          rintro W8 hx8
          have q0 := (hx8.out.cells b' _ hb1).trans hc
          have HX8 := hid (HX.out.trans hx8.out)
          clear hc hx8
          cases v with
          | true =>
            go_wp2
            go_roundw
            case rel => exact ⟨j + 1 + 1, by omega, by go_num, by rw [HV.out]; rfl, HX8⟩
            case measure => simp [intOf]; omega
          | false =>
            cases hq : ((x : Int) == a1) with
            | true =>
              rw [hq] at HV
              go_wp2
              go_roundw
              case rel => exact ⟨j + 1 + 1, by omega, by go_num, by rw [HV.out, HWR.out, hq]; rfl, HX8⟩
              case measure => simp [intOf]; omega
            | false =>
              rw [hq] at HV
              go_wp2
              go_roundw
              case rel => exact ⟨j + 1 + 1, by omega, by go_num, by rw [HV.out, HWR.out, hq]; rfl, HX8⟩
              case measure => simp [intOf]; omega
      · obtain rfl : k = mt := by omega
        have hk1 : ¬ (k : Int) < (k : Int) := by omega
        rw [show T.take k = T from List.take_of_length_le (by rw [HMT.out]; exact Nat.le_refl _)]
        generalize T.any (fun x : Nat => (x : Int) == a1) = v at HBY ⊢
        have hwr := HWR.out
        have hwr2 := HWR2.out
        by_cases h2 : a1 < 2
        · have d7 : decide (a1 < 2) = true := decide_eq_true h2
          go_wp2
          go_ret
          exact ⟨rfl, HB.out.trans (HE3.out.trans (HX.out.trans (by repeat (first | (with_reducible exact Ext.refl _) | (with_reducible refine Ext.undrew ?_) | (with_reducible refine Ext.grow ?_ _) | (with_reducible refine Ext.drew ?_) | (with_reducible refine Ext.drewN ?_ _) | (with_reducible refine Ext.alloc ?_ _) | (with_reducible assumption) | ((with_reducible refine Ext.setCell ?_ ?_ _); rotate_left; (first | exact Nat.le_refl _ | ((try dsimp only); (try simp only [World.size_alloc, grow_size, World.size_setCell]); omega)))))))⟩
        · have d7 : decide (a1 < 2) = false := decide_eq_false h2
          have HH := hid (HBY.out (by omega))
          go_wp2_with fail
          refine (sHas true a1 (a1 + 1) a1 32 0 _ (HS3.out.ext (HX.out.trans (by repeat (first | (with_reducible exact Ext.refl _) | (with_reducible refine Ext.undrew ?_) | (with_reducible refine Ext.grow ?_ _) | (with_reducible refine Ext.drew ?_) | (with_reducible refine Ext.drewN ?_ _) | (with_reducible refine Ext.alloc ?_ _) | (with_reducible assumption) | ((with_reducible refine Ext.setCell ?_ ?_ _); rotate_left; (first | exact Nat.le_refl _ | ((try dsimp only); (try simp only [World.size_alloc, grow_size, World.size_setCell]); omega)))))))).mono ?_
          rintro e W9 ⟨he, hx9⟩
          rw [HH.out] at he
          subst he
          have HX9 := hid (HX.out.trans (((Ext.refl _).alloc _).trans hx9))
          clear hx9 HH HBY
          cases v
          all_goals
            go_wp2
            go_ret
            exact ⟨rfl, HB.out.trans (HE3.out.trans HX9.out)⟩
end closTypes

end Go.Proofs.Ytlapemeoffpmgaa
