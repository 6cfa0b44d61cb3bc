/- Layer 6: the document's less, has. -/
import Derived.Test.YtlapemeoffpmgaaCloR
import Derived.Test.YtlapemeoffpmgaaCloW
namespace Go.Proofs.Ytlapemeoffpmgaa
set_option linter.unusedSimpArgs false
set_option linter.unusedVariables false
open Go.RowKit

set_option maxRecDepth 100000 in
set_option maxHeartbeats 4000000 in
theorem rless_ (t : Bool) (b tp a p ty : Int) (t' : Bool) (b' tp' a' p' ty' : Int) (w : World) : Calls Try.prog 35 #[.agg #[.bool t, .int .i64 b, .int .i64 tp, .int .i64 a, .int .i64 p, .int .i64 ty], .agg #[.bool t', .int .i64 b', .int .i64 tp', .int .i64 a', .int .i64 p', .int .i64 ty']] w fun e w' => e = .returned (.bool (lexC ⟨t, b, tp, a, p, ty⟩ ⟨t', b', tp', a', p', ty'⟩)) ∧ Ext w w' := by
  by_cases e1 : b = b'
  · subst e1
    by_cases e2 : tp = tp'
    · subst e2
      have hv : lexC ⟨t, b, tp, a, p, ty⟩ ⟨t', b, tp, a', p', ty'⟩ = decide (p < p') := by simp [lexC]
      rw [hv]
      clear hv
      go_enter Try.func35, Try.ntmps35
      go_wp2
      go_ret
      exact ⟨rfl, (by repeat (first | (with_reducible exact Ext.refl _) | (with_reducible refine Ext.undrew ?_) | (with_reducible refine Ext.grow ?_ _) | (with_reducible refine Ext.drew ?_) | (with_reducible refine Ext.drewN ?_ _) | (with_reducible refine Ext.alloc ?_ _) | (with_reducible assumption) | ((with_reducible refine Ext.setCell ?_ ?_ _); rotate_left; (first | exact Nat.le_refl _ | ((try dsimp only); (try simp only [World.size_alloc, grow_size, World.size_setCell]); omega)))))⟩
    · have hv : lexC ⟨t, b, tp, a, p, ty⟩ ⟨t', b, tp', a', p', ty'⟩ = decide (tp < tp') := by simp [lexC, e2]
      rw [hv]
      clear hv
      go_enter Try.func35, Try.ntmps35
      go_wp2
      go_ret
      exact ⟨rfl, (by repeat (first | (with_reducible exact Ext.refl _) | (with_reducible refine Ext.undrew ?_) | (with_reducible refine Ext.grow ?_ _) | (with_reducible refine Ext.drew ?_) | (with_reducible refine Ext.drewN ?_ _) | (with_reducible refine Ext.alloc ?_ _) | (with_reducible assumption) | ((with_reducible refine Ext.setCell ?_ ?_ _); rotate_left; (first | exact Nat.le_refl _ | ((try dsimp only); (try simp only [World.size_alloc, grow_size, World.size_setCell]); omega)))))⟩
  · have hv : lexC ⟨t, b, tp, a, p, ty⟩ ⟨t', b', tp', a', p', ty'⟩ = decide (b < b') := by simp [lexC, e1]
    rw [hv]
    clear hv
    go_enter Try.func35, Try.ntmps35
    go_wp2
    go_ret
    exact ⟨rfl, (by repeat (first | (with_reducible exact Ext.refl _) | (with_reducible refine Ext.undrew ?_) | (with_reducible refine Ext.grow ?_ _) | (with_reducible refine Ext.drew ?_) | (with_reducible refine Ext.drewN ?_ _) | (with_reducible refine Ext.alloc ?_ _) | (with_reducible assumption) | ((with_reducible refine Ext.setCell ?_ ?_ _); rotate_left; (first | exact Nat.le_refl _ | ((try dsimp only); (try simp only [World.size_alloc, grow_size, World.size_setCell]); omega)))))⟩
theorem cap_eqB (d : Cap) (t : Bool) (b tp a p ty : Int) : (d == (⟨t, b, tp, a, p, ty⟩ : Cap)) = (d.tag == t && d.base == b && d.top == tp && d.at_ == a && d.perms == p && d.type == ty) := by
  obtain ⟨t', b', tp', a', p', ty'⟩ := d
  rw [Bool.eq_iff_iff]
  simp only [beq_iff_eq, Cap.mk.injEq, Bool.and_eq_true]
  constructor
  · rintro ⟨h1, h2, h3, h4, h5, h6⟩; exact ⟨⟨⟨⟨⟨h1, h2⟩, h3⟩, h4⟩, h5⟩, h6⟩
  · rintro ⟨⟨⟨⟨⟨h1, h2⟩, h3⟩, h4⟩, h5⟩, h6⟩; exact ⟨h1, h2, h3, h4, h5, h6⟩
set_option maxRecDepth 100000 in
set_option maxHeartbeats 4000000 in
theorem rhasl_ (A : Option Addr) (n ca : Nat) (O : List Cap) (t : Bool) (b tp a p ty : Int) (w : World) (hA : RdF Cap.cells w A O) (hn : O.length = n) (hb : n ≤ 1000000000) : Calls Try.prog 28 #[.slice A n ca, .agg #[.bool t, .int .i64 b, .int .i64 tp, .int .i64 a, .int .i64 p, .int .i64 ty]] w fun e w' => e = .returned (.bool (O.any (· == (⟨t, b, tp, a, p, ty⟩ : Cap)))) ∧ Ext w w' := by
  subst hn
  have HA := hid (hA.ext ((Ext.refl w).alloc (.cells #[.bool t, .int .i64 b, .int .i64 tp, .int .i64 a, .int .i64 p, .int .i64 ty] 24)))
  clear hA
  go_enter Try.func28, Try.ntmps28
  go_wp2
  go_loopw [5] (fun i wr => ∃ k : Nat, k ≤ O.length ∧ i = .int .i64 k ∧ Hid ((O.take k).any (· == (⟨t, b, tp, a, p, ty⟩ : Cap)) = false) ∧ Hid (Ext (w.alloc (.cells #[.bool t, .int .i64 b, .int .i64 tp, .int .i64 a, .int .i64 p, .int .i64 ty] 24)) wr)) (fun i _ => O.length - (intOf i).toNat)
  case atStart => exact ⟨0, Nat.zero_le _, rfl, hid (by first | rfl | simp), hid (Ext.refl _)⟩
  case round =>
    obtain ⟨k, hk, rfl, HN, HX⟩ := hrel
    by_cases hlt : k < O.length
    · have hk1 : (k : Int) < (O.length : Int) := by omega
      have hk0 : (0 : Int) ≤ (k : Int) := by omega
      obtain ⟨d, hd⟩ : ∃ d, O[k] = d := ⟨_, rfl⟩
      have HT : Hid ((O.take (k + 1)).any ((· == (⟨t, b, tp, a, p, ty⟩ : Cap))) = ((· == (⟨t, b, tp, a, p, ty⟩ : Cap))) d) := hid (by rw [List.take_succ_eq_append_getElem hlt, List.any_append, HN.out, Bool.false_or, hd]; simp)
      have HM : Hid (d ∈ O) := hid (by rw [← hd]; exact List.getElem_mem _)
      obtain ⟨b', o', rfl, hb1, c0, c1, c2, c3, c4, c5⟩ := (HA.out.ext HX.out).cap hlt d hd
      clear hd
      have hr := (Row.new w #[.bool t, .int .i64 b, .int .i64 tp, .int .i64 a, .int .i64 p, .int .i64 ty] 24).ext HX.out
      obtain ⟨g0, g1, g2, g3, g4, g5, g6⟩ := Row.six (c := ⟨t, b, tp, a, p, ty⟩) hr
      clear hr
      cases hg : d == (⟨t, b, tp, a, p, ty⟩ : Cap) with
      | false =>
        replace HT : Hid ((O.take (k + 1)).any (· == (⟨t, b, tp, a, p, ty⟩ : Cap)) = false) := hid (HT.out.trans hg)
        by_cases h8 : d.tag = t
        · subst h8
          by_cases h10 : d.base = b
          · subst h10
            by_cases h12 : d.top = tp
            · subst h12
              by_cases h14 : d.at_ = a
              · subst h14
                by_cases h16 : d.perms = p
                · subst h16
                  have h9 : ¬ d.type = ty := fun e => by subst e; have h8 : (d == d) = false := hg; simp at h8
                  clear hg
                  go_upto_region 4 with fail
                  refine wp_region_grow (by kernel_rfl) (by kernel_rfl) (by first | (simp only [List.append]; rfl) | rfl) ?_
                  (repeat (go_big_quiet_step (fail)))
                  refine wpQuiet_nil ?_
                  intro wq hq
                  obtain ⟨dq, rfl⟩ := hq
                  go_wp2
                  go_roundw
                  case rel => exact ⟨k + 1, by omega, by go_num, HT, hid (Ext.trans HX.out (by repeat (first | (with_reducible exact Ext.refl _) | (with_reducible refine Ext.undrew ?_) | (with_reducible refine Ext.grow ?_ _) | (with_reducible refine Ext.drew ?_) | (with_reducible refine Ext.drewN ?_ _) | (with_reducible refine Ext.alloc ?_ _) | (with_reducible assumption) | ((with_reducible refine Ext.setCell ?_ ?_ _); rotate_left; (first | exact Nat.le_refl _ | ((try dsimp only); (try simp only [World.size_alloc, grow_size, World.size_setCell]); omega))))))⟩
                  case measure => simp [intOf]; omega
                · clear hg
                  go_upto_region 4 with fail
                  refine wp_region_grow (by kernel_rfl) (by kernel_rfl) (by first | (simp only [List.append]; rfl) | rfl) ?_
                  (repeat (go_big_quiet_step (fail)))
                  refine wpQuiet_nil ?_
                  intro wq hq
                  obtain ⟨dq, rfl⟩ := hq
                  go_wp2
                  go_roundw
                  case rel => exact ⟨k + 1, by omega, by go_num, HT, hid (Ext.trans HX.out (by repeat (first | (with_reducible exact Ext.refl _) | (with_reducible refine Ext.undrew ?_) | (with_reducible refine Ext.grow ?_ _) | (with_reducible refine Ext.drew ?_) | (with_reducible refine Ext.drewN ?_ _) | (with_reducible refine Ext.alloc ?_ _) | (with_reducible assumption) | ((with_reducible refine Ext.setCell ?_ ?_ _); rotate_left; (first | exact Nat.le_refl _ | ((try dsimp only); (try simp only [World.size_alloc, grow_size, World.size_setCell]); omega))))))⟩
                  case measure => simp [intOf]; omega
              · clear hg
                go_upto_region 4 with fail
                refine wp_region_grow (by kernel_rfl) (by kernel_rfl) (by first | (simp only [List.append]; rfl) | rfl) ?_
                (repeat (go_big_quiet_step (fail)))
                refine wpQuiet_nil ?_
                intro wq hq
                obtain ⟨dq, rfl⟩ := hq
                go_wp2
                go_roundw
                case rel => exact ⟨k + 1, by omega, by go_num, HT, hid (Ext.trans HX.out (by repeat (first | (with_reducible exact Ext.refl _) | (with_reducible refine Ext.undrew ?_) | (with_reducible refine Ext.grow ?_ _) | (with_reducible refine Ext.drew ?_) | (with_reducible refine Ext.drewN ?_ _) | (with_reducible refine Ext.alloc ?_ _) | (with_reducible assumption) | ((with_reducible refine Ext.setCell ?_ ?_ _); rotate_left; (first | exact Nat.le_refl _ | ((try dsimp only); (try simp only [World.size_alloc, grow_size, World.size_setCell]); omega))))))⟩
                case measure => simp [intOf]; omega
            · clear hg
              go_upto_region 4 with fail
              refine wp_region_grow (by kernel_rfl) (by kernel_rfl) (by first | (simp only [List.append]; rfl) | rfl) ?_
              (repeat (go_big_quiet_step (fail)))
              refine wpQuiet_nil ?_
              intro wq hq
              obtain ⟨dq, rfl⟩ := hq
              go_wp2
              go_roundw
              case rel => exact ⟨k + 1, by omega, by go_num, HT, hid (Ext.trans HX.out (by repeat (first | (with_reducible exact Ext.refl _) | (with_reducible refine Ext.undrew ?_) | (with_reducible refine Ext.grow ?_ _) | (with_reducible refine Ext.drew ?_) | (with_reducible refine Ext.drewN ?_ _) | (with_reducible refine Ext.alloc ?_ _) | (with_reducible assumption) | ((with_reducible refine Ext.setCell ?_ ?_ _); rotate_left; (first | exact Nat.le_refl _ | ((try dsimp only); (try simp only [World.size_alloc, grow_size, World.size_setCell]); omega))))))⟩
              case measure => simp [intOf]; omega
          · clear hg
            go_upto_region 4 with fail
            refine wp_region_grow (by kernel_rfl) (by kernel_rfl) (by first | (simp only [List.append]; rfl) | rfl) ?_
            (repeat (go_big_quiet_step (fail)))
            refine wpQuiet_nil ?_
            intro wq hq
            obtain ⟨dq, rfl⟩ := hq
            go_wp2
            go_roundw
            case rel => exact ⟨k + 1, by omega, by go_num, HT, hid (Ext.trans HX.out (by repeat (first | (with_reducible exact Ext.refl _) | (with_reducible refine Ext.undrew ?_) | (with_reducible refine Ext.grow ?_ _) | (with_reducible refine Ext.drew ?_) | (with_reducible refine Ext.drewN ?_ _) | (with_reducible refine Ext.alloc ?_ _) | (with_reducible assumption) | ((with_reducible refine Ext.setCell ?_ ?_ _); rotate_left; (first | exact Nat.le_refl _ | ((try dsimp only); (try simp only [World.size_alloc, grow_size, World.size_setCell]); omega))))))⟩
            case measure => simp [intOf]; omega
        · clear hg
          go_upto_region 4 with fail
          refine wp_region_grow (by kernel_rfl) (by kernel_rfl) (by first | (simp only [List.append]; rfl) | rfl) ?_
          (repeat (go_big_quiet_step (fail)))
          refine wpQuiet_nil ?_
          intro wq hq
          obtain ⟨dq, rfl⟩ := hq
          go_wp2
          go_roundw
          case rel => exact ⟨k + 1, by omega, by go_num, HT, hid (Ext.trans HX.out (by repeat (first | (with_reducible exact Ext.refl _) | (with_reducible refine Ext.undrew ?_) | (with_reducible refine Ext.grow ?_ _) | (with_reducible refine Ext.drew ?_) | (with_reducible refine Ext.drewN ?_ _) | (with_reducible refine Ext.alloc ?_ _) | (with_reducible assumption) | ((with_reducible refine Ext.setCell ?_ ?_ _); rotate_left; (first | exact Nat.le_refl _ | ((try dsimp only); (try simp only [World.size_alloc, grow_size, World.size_setCell]); omega))))))⟩
          case measure => simp [intOf]; omega
      | true =>
        have hv : O.any ((· == (⟨t, b, tp, a, p, ty⟩ : Cap))) = true := List.any_eq_true.2 ⟨d, HM.out, hg⟩
        have HV := hid hv
        clear hv
        obtain rfl := beq_iff_eq.1 hg
        clear hg
        go_upto_region 4 with fail
        refine wp_region_grow (by kernel_rfl) (by kernel_rfl) (by first | (simp only [List.append]; rfl) | rfl) ?_
        (repeat (go_big_quiet_step (fail)))
        refine wpQuiet_nil ?_
        intro wq hq
        obtain ⟨dq, rfl⟩ := hq
        go_wp2
        go_ret
        exact ⟨by rw [HV.out]; rfl, ((Ext.refl _).alloc _).trans (HX.out.trans (by repeat (first | (with_reducible exact Ext.refl _) | (with_reducible refine Ext.undrew ?_) | (with_reducible refine Ext.grow ?_ _) | (with_reducible refine Ext.drew ?_) | (with_reducible refine Ext.drewN ?_ _) | (with_reducible refine Ext.alloc ?_ _) | (with_reducible assumption) | ((with_reducible refine Ext.setCell ?_ ?_ _); rotate_left; (first | exact Nat.le_refl _ | ((try dsimp only); (try simp only [World.size_alloc, grow_size, World.size_setCell]); omega))))))⟩
    · obtain rfl : k = O.length := by omega
      have hv : O.any (· == (⟨t, b, tp, a, p, ty⟩ : Cap)) = false := by have := HN.out; rwa [List.take_length] at this
      have HV := hid hv
      clear hv
      go_wp2
      go_ret
      exact ⟨by rw [HV.out]; rfl, ((Ext.refl _).alloc _).trans HX.out⟩

end Go.Proofs.Ytlapemeoffpmgaa
