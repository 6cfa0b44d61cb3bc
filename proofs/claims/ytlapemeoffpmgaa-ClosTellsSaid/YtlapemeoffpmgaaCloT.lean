/- Layer 6: the document's under. -/
import Derived.Test.YtlapemeoffpmgaaCloS
import Derived.Test.YtlapemeoffpmgaaCloD
namespace Go.Proofs.Ytlapemeoffpmgaa
set_option linter.unusedSimpArgs false
set_option linter.unusedVariables false
open Go.RowKit

set_option maxRecDepth 100000 in
set_option maxHeartbeats 4000000 in
theorem runder_ (t : Bool) (b tp a p ty : Int) (s : Nat) (A : Option Addr) (cg : Nat) (G : List Cap) (B : Option Addr) (co : Nat) (O : List Cap) (w : World) (h : ClS w s A cg G B co O) (ho : O.length ≤ 1000000000) : Calls Try.prog 32 #[.pointer (some ⟨s, 0, none⟩), .agg #[.bool t, .int .i64 b, .int .i64 tp, .int .i64 a, .int .i64 p, .int .i64 ty]] w fun e w' => e = .returned (.bool (O.any (underR ⟨t, b, tp, a, p, ty⟩))) ∧ Ext w w' := by
  have HB0 := hid (h.ext ((Ext.refl w).alloc (.cells #[.bool t, .int .i64 b, .int .i64 tp, .int .i64 a, .int .i64 p, .int .i64 ty] 24)))
  have HA := hid HB0.out.r1
  clear h
  go_enter Try.func32, Try.ntmps32
  go_wp2
  go_loopw [5] (fun i wr => ∃ k : Nat, k ≤ O.length ∧ i = .int .i64 k ∧ Hid ((O.take k).any (underR ⟨t, b, tp, a, p, ty⟩) = false) ∧ Hid (Ext (w.alloc (.cells #[.bool t, .int .i64 b, .int .i64 tp, .int .i64 a, .int .i64 p, .int .i64 ty] 24)) wr)) (fun i _ => O.length - (intOf i).toNat)
  case atStart => exact ⟨0, Nat.zero_le _, rfl, hid (by first | rfl | simp), hid (Ext.refl _)⟩
  case round =>
    obtain ⟨k, hk, rfl, HN, HX⟩ := hrel
    have k1 := (HB0.out.ext HX.out).c1
    have hs := (HB0.out.ext HX.out).lt
    by_cases hlt : k < O.length
    · have hk1 : (k : Int) < (O.length : Int) := by omega
      have hk0 : (0 : Int) ≤ (k : Int) := by omega
      obtain ⟨d, hd⟩ : ∃ d, O[k] = d := ⟨_, rfl⟩
      have HT : Hid ((O.take (k + 1)).any (underR ⟨t, b, tp, a, p, ty⟩) = (underR ⟨t, b, tp, a, p, ty⟩) d) := hid (by rw [List.take_succ_eq_append_getElem hlt, List.any_append, HN.out, Bool.false_or, hd]; simp)
      have HM : Hid (d ∈ O) := hid (by rw [← hd]; exact List.getElem_mem _)
      obtain ⟨b', o', hB',  hb1, c0, c1, c2, c3, c4, c5⟩ := (HA.out.ext HX.out).cap hlt d hd
      subst hB'
      clear hd
      have hr := (Row.new w #[.bool t, .int .i64 b, .int .i64 tp, .int .i64 a, .int .i64 p, .int .i64 ty] 24).ext HX.out
      obtain ⟨g0, g1, g2, g3, g4, g5, g6⟩ := Row.six (c := ⟨t, b, tp, a, p, ty⟩) hr
      clear hr
      cases hg : underR ⟨t, b, tp, a, p, ty⟩ d with
      | false =>
        have HU : Hid (∀ W, Ext wr W → Calls Try.prog 23 #[.agg #[.bool t, .int .i64 b, .int .i64 tp, .int .i64 a, .int .i64 p, .int .i64 ty], .agg #[.bool d.tag, .int .i64 d.base, .int .i64 d.top, .int .i64 d.at_, .int .i64 d.perms, .int .i64 d.type]] W fun e w' => e = .returned (.bool false) ∧ Ext W w') := hid (fun W _ => (rcapUnder t b tp a p ty d.tag d.base d.top d.at_ d.perms d.type W).mono fun e w' h => ⟨h.1.trans (congrArg (fun z => Ending.returned (Value.bool z)) hg), h.2⟩)
        replace HT : Hid ((O.take (k + 1)).any (underR ⟨t, b, tp, a, p, ty⟩) = false) := hid (HT.out.trans hg)
        clear hg
        go_upto_region 4 with fail
        refine wp_region_grow (by kernel_rfl) (by kernel_rfl) (by first | (simp only [List.append]; rfl) | rfl) ?_
        (repeat (go_big_quiet_step ((go_at_call 23; exact growOf (HU.out _ (by repeat (first | (with_reducible exact Ext.refl _) | (with_reducible refine Ext.undrew ?_) | (with_reducible refine Ext.grow ?_ _) | (with_reducible refine Ext.drew ?_) | (with_reducible refine Ext.drewN ?_ _) | (with_reducible refine Ext.alloc ?_ _) | (with_reducible assumption) | ((with_reducible refine Ext.setCell ?_ ?_ _); rotate_left; (first | exact Nat.le_refl _ | ((try dsimp only); (try simp only [World.size_alloc, grow_size, World.size_setCell]); omega))))))))))
        refine wpQuiet_nil ?_
        intro wq hq
        obtain ⟨dq, rfl⟩ := hq
        go_wp2
        go_roundw
        case rel => exact ⟨k + 1, by omega, by go_num, HT, hid (HX.out.trans (by repeat (first | (with_reducible exact Ext.refl _) | (with_reducible refine Ext.undrew ?_) | (with_reducible refine Ext.grow ?_ _) | (with_reducible refine Ext.drew ?_) | (with_reducible refine Ext.drewN ?_ _) | (with_reducible refine Ext.alloc ?_ _) | (with_reducible assumption) | ((with_reducible refine Ext.setCell ?_ ?_ _); rotate_left; (first | exact Nat.le_refl _ | ((try dsimp only); (try simp only [World.size_alloc, grow_size, World.size_setCell]); omega))))))⟩
        case measure => simp [intOf]; omega
      | true =>
        have HU : Hid (∀ W, Ext wr W → Calls Try.prog 23 #[.agg #[.bool t, .int .i64 b, .int .i64 tp, .int .i64 a, .int .i64 p, .int .i64 ty], .agg #[.bool d.tag, .int .i64 d.base, .int .i64 d.top, .int .i64 d.at_, .int .i64 d.perms, .int .i64 d.type]] W fun e w' => e = .returned (.bool true) ∧ Ext W w') := hid (fun W _ => (rcapUnder t b tp a p ty d.tag d.base d.top d.at_ d.perms d.type W).mono fun e w' h => ⟨h.1.trans (congrArg (fun z => Ending.returned (Value.bool z)) hg), h.2⟩)
        have hv : O.any (underR ⟨t, b, tp, a, p, ty⟩) = true := List.any_eq_true.2 ⟨d, HM.out, hg⟩
        have HV := hid hv
        clear hv
        clear hg
        go_upto_region 4 with fail
        refine wp_region_grow (by kernel_rfl) (by kernel_rfl) (by first | (simp only [List.append]; rfl) | rfl) ?_
        (repeat (go_big_quiet_step ((go_at_call 23; exact growOf (HU.out _ (by repeat (first | (with_reducible exact Ext.refl _) | (with_reducible refine Ext.undrew ?_) | (with_reducible refine Ext.grow ?_ _) | (with_reducible refine Ext.drew ?_) | (with_reducible refine Ext.drewN ?_ _) | (with_reducible refine Ext.alloc ?_ _) | (with_reducible assumption) | ((with_reducible refine Ext.setCell ?_ ?_ _); rotate_left; (first | exact Nat.le_refl _ | ((try dsimp only); (try simp only [World.size_alloc, grow_size, World.size_setCell]); omega))))))))))
        refine wpQuiet_nil ?_
        intro wq hq
        obtain ⟨dq, rfl⟩ := hq
        go_wp2
        go_ret
        exact ⟨by rw [HV.out]; rfl, ((Ext.refl _).alloc _).trans (HX.out.trans (by repeat (first | (with_reducible exact Ext.refl _) | (with_reducible refine Ext.undrew ?_) | (with_reducible refine Ext.grow ?_ _) | (with_reducible refine Ext.drew ?_) | (with_reducible refine Ext.drewN ?_ _) | (with_reducible refine Ext.alloc ?_ _) | (with_reducible assumption) | ((with_reducible refine Ext.setCell ?_ ?_ _); rotate_left; (first | exact Nat.le_refl _ | ((try dsimp only); (try simp only [World.size_alloc, grow_size, World.size_setCell]); omega))))))⟩
    · obtain rfl : k = O.length := by omega
      have hv : O.any (underR ⟨t, b, tp, a, p, ty⟩) = false := by have := HN.out; rwa [List.take_length] at this
      have HV := hid hv
      clear hv
      go_wp2
      go_ret
      exact ⟨by rw [HV.out]; rfl, ((Ext.refl _).alloc _).trans HX.out⟩

end Go.Proofs.Ytlapemeoffpmgaa
