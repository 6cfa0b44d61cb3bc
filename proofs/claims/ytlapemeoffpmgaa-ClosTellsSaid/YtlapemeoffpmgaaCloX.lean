/- Layer 6: the document's Same. -/
import Derived.Test.YtlapemeoffpmgaaCloB
namespace Go.Proofs.Ytlapemeoffpmgaa
set_option linter.unusedSimpArgs false
set_option linter.unusedVariables false
open Go.RowKit

set_option maxRecDepth 100000 in
set_option maxHeartbeats 4000000 in
theorem rsame6_ (A : Option Addr) (n ca : Nat) (L : List Cap) (B : Option Addr) (n' cb : Nat) (M : List Cap) (w : World) (hA : RdF Cap.cells w A L) (hn : L.length = n) (hB : RdF Cap.cells w B M) (hm : M.length = n') (hb : n ≤ 1000000000) (hb' : n' ≤ 1000000000) : Calls Try.prog 15 #[.slice A n ca, .slice B n' cb] w fun e w' => e = .returned (.bool (decide (L = M))) ∧ Ext w w' := by
  have HA := hid hA
  have HB := hid hB
  have HL := hid hn
  have HM := hid hm
  clear hA hB hn hm
  by_cases hnn : n = n'
  · subst hnn
    go_enter Try.func15, Try.ntmps15
    go_wp2
    go_loopw [5] (fun i wr => ∃ k : Nat, k ≤ n ∧ i = .int .i64 k ∧ Hid (L.take k = M.take k) ∧ Hid (Ext w wr)) (fun i _ => n - (intOf i).toNat)
    case atStart => exact ⟨0, Nat.zero_le _, rfl, hid rfl, hid (Ext.refl _)⟩
    case round =>
      obtain ⟨k, hk, rfl, HN, HX⟩ := hrel
      by_cases hlt : k < n
      · have hk1 : (k : Int) < (n : Int) := by omega
        have hk0 : (0 : Int) ≤ (k : Int) := by omega
        have hlL : k < L.length := by rw [HL.out]; exact hlt
        have hlM : k < M.length := by rw [HM.out]; exact hlt
        obtain ⟨d, hd⟩ : ∃ d, L[k] = d := ⟨_, rfl⟩
        obtain ⟨m, hm⟩ : ∃ m, M[k] = m := ⟨_, rfl⟩
        have HQ : Hid (L.take (k + 1) = L.take k ++ [d] ∧ M.take (k + 1) = M.take k ++ [m]) := hid ⟨by rw [List.take_succ_eq_append_getElem hlL, hd], by rw [List.take_succ_eq_append_getElem hlM, hm]⟩
        obtain ⟨b', o', rfl, hb1, c0, c1, c2, c3, c4, c5⟩ := (HA.out.ext HX.out).cap hlL d hd
        obtain ⟨b2, o2, rfl, hb2, e0, e1, e2, e3, e4, e5⟩ := (HB.out.ext HX.out).cap hlM m hm
        by_cases hne : d = m
        · subst hne
          have HT : Hid (L.take (k + 1) = M.take (k + 1)) := hid (by rw [HQ.out.1, HQ.out.2, HN.out])
          clear hd hm hlL hlM
          go_upto_region 6 with fail
          refine wp_region_grow (by kernel_rfl) (by kernel_rfl) (by first | (simp only [List.append]; rfl) | rfl) ?_
          (repeat (go_big_quiet_step (fail)))
          refine wpQuiet_nil ?_
          intro wq hq
          obtain ⟨dq, rfl⟩ := hq
          go_wp2
          go_roundw
          case rel => exact ⟨k + 1, by omega, by go_num, HT, hid (HX.out.trans (by repeat (first | (with_reducible exact Ext.refl _) | (with_reducible refine Ext.undrew ?_) | (with_reducible refine Ext.grow ?_ _) | (with_reducible refine Ext.drew ?_) | (with_reducible refine Ext.drewN ?_ _) | (with_reducible refine Ext.alloc ?_ _) | (with_reducible assumption) | ((with_reducible refine Ext.setCell ?_ ?_ _); rotate_left; (first | exact Nat.le_refl _ | ((try dsimp only); (try simp only [World.size_alloc, grow_size, World.size_setCell]); omega))))))⟩
          case measure => simp [intOf]; omega
        · have hv : decide (L = M) = false := by
            refine decide_eq_false fun e => hne ?_
            subst e
            rw [← hd, ← hm]
          have HV := hid hv
          clear hv hd hm hlL hlM
          by_cases h0 : d.tag = m.tag
          · rw [← h0] at e0
            by_cases h1 : d.base = m.base
            · rw [← h1] at e1
              by_cases h2 : d.top = m.top
              · rw [← h2] at e2
                by_cases h3 : d.at_ = m.at_
                · rw [← h3] at e3
                  by_cases h4 : d.perms = m.perms
                  · rw [← h4] at e4
                    have h9 : ¬ d.type = m.type := fun e => hne (by cases d; cases m; simp_all)
                    clear hne
                    go_upto_region 6 with fail
                    refine wp_region_grow (by kernel_rfl) (by kernel_rfl) (by first | (simp only [List.append]; rfl) | rfl) ?_
                    (repeat (go_big_quiet_step (fail)))
                    refine wpQuiet_nil ?_
                    intro wq hq
                    obtain ⟨dq, rfl⟩ := hq
                    go_wp2
                    go_ret
                    exact ⟨by rw [HV.out]; rfl, HX.out.trans (by repeat (first | (with_reducible exact Ext.refl _) | (with_reducible refine Ext.undrew ?_) | (with_reducible refine Ext.grow ?_ _) | (with_reducible refine Ext.drew ?_) | (with_reducible refine Ext.drewN ?_ _) | (with_reducible refine Ext.alloc ?_ _) | (with_reducible assumption) | ((with_reducible refine Ext.setCell ?_ ?_ _); rotate_left; (first | exact Nat.le_refl _ | ((try dsimp only); (try simp only [World.size_alloc, grow_size, World.size_setCell]); omega)))))⟩
                  · clear hne
                    go_upto_region 6 with fail
                    refine wp_region_grow (by kernel_rfl) (by kernel_rfl) (by first | (simp only [List.append]; rfl) | rfl) ?_
                    (repeat (go_big_quiet_step (fail)))
                    refine wpQuiet_nil ?_
                    intro wq hq
                    obtain ⟨dq, rfl⟩ := hq
                    go_wp2
                    go_ret
                    exact ⟨by rw [HV.out]; rfl, HX.out.trans (by repeat (first | (with_reducible exact Ext.refl _) | (with_reducible refine Ext.undrew ?_) | (with_reducible refine Ext.grow ?_ _) | (with_reducible refine Ext.drew ?_) | (with_reducible refine Ext.drewN ?_ _) | (with_reducible refine Ext.alloc ?_ _) | (with_reducible assumption) | ((with_reducible refine Ext.setCell ?_ ?_ _); rotate_left; (first | exact Nat.le_refl _ | ((try dsimp only); (try simp only [World.size_alloc, grow_size, World.size_setCell]); omega)))))⟩
                · clear hne
                  go_upto_region 6 with fail
                  refine wp_region_grow (by kernel_rfl) (by kernel_rfl) (by first | (simp only [List.append]; rfl) | rfl) ?_
                  (repeat (go_big_quiet_step (fail)))
                  refine wpQuiet_nil ?_
                  intro wq hq
                  obtain ⟨dq, rfl⟩ := hq
                  go_wp2
                  go_ret
                  exact ⟨by rw [HV.out]; rfl, HX.out.trans (by repeat (first | (with_reducible exact Ext.refl _) | (with_reducible refine Ext.undrew ?_) | (with_reducible refine Ext.grow ?_ _) | (with_reducible refine Ext.drew ?_) | (with_reducible refine Ext.drewN ?_ _) | (with_reducible refine Ext.alloc ?_ _) | (with_reducible assumption) | ((with_reducible refine Ext.setCell ?_ ?_ _); rotate_left; (first | exact Nat.le_refl _ | ((try dsimp only); (try simp only [World.size_alloc, grow_size, World.size_setCell]); omega)))))⟩
              · clear hne
                go_upto_region 6 with fail
                refine wp_region_grow (by kernel_rfl) (by kernel_rfl) (by first | (simp only [List.append]; rfl) | rfl) ?_
                (repeat (go_big_quiet_step (fail)))
                refine wpQuiet_nil ?_
                intro wq hq
                obtain ⟨dq, rfl⟩ := hq
                go_wp2
                go_ret
                exact ⟨by rw [HV.out]; rfl, HX.out.trans (by repeat (first | (with_reducible exact Ext.refl _) | (with_reducible refine Ext.undrew ?_) | (with_reducible refine Ext.grow ?_ _) | (with_reducible refine Ext.drew ?_) | (with_reducible refine Ext.drewN ?_ _) | (with_reducible refine Ext.alloc ?_ _) | (with_reducible assumption) | ((with_reducible refine Ext.setCell ?_ ?_ _); rotate_left; (first | exact Nat.le_refl _ | ((try dsimp only); (try simp only [World.size_alloc, grow_size, World.size_setCell]); omega)))))⟩
            · clear hne
              go_upto_region 6 with fail
              refine wp_region_grow (by kernel_rfl) (by kernel_rfl) (by first | (simp only [List.append]; rfl) | rfl) ?_
              (repeat (go_big_quiet_step (fail)))
              refine wpQuiet_nil ?_
              intro wq hq
              obtain ⟨dq, rfl⟩ := hq
              go_wp2
              go_ret
              exact ⟨by rw [HV.out]; rfl, HX.out.trans (by repeat (first | (with_reducible exact Ext.refl _) | (with_reducible refine Ext.undrew ?_) | (with_reducible refine Ext.grow ?_ _) | (with_reducible refine Ext.drew ?_) | (with_reducible refine Ext.drewN ?_ _) | (with_reducible refine Ext.alloc ?_ _) | (with_reducible assumption) | ((with_reducible refine Ext.setCell ?_ ?_ _); rotate_left; (first | exact Nat.le_refl _ | ((try dsimp only); (try simp only [World.size_alloc, grow_size, World.size_setCell]); omega)))))⟩
          · clear hne
            go_upto_region 6 with fail
            refine wp_region_grow (by kernel_rfl) (by kernel_rfl) (by first | (simp only [List.append]; rfl) | rfl) ?_
            (repeat (go_big_quiet_step (fail)))
            refine wpQuiet_nil ?_
            intro wq hq
            obtain ⟨dq, rfl⟩ := hq
            go_wp2
            go_ret
            exact ⟨by rw [HV.out]; rfl, HX.out.trans (by repeat (first | (with_reducible exact Ext.refl _) | (with_reducible refine Ext.undrew ?_) | (with_reducible refine Ext.grow ?_ _) | (with_reducible refine Ext.drew ?_) | (with_reducible refine Ext.drewN ?_ _) | (with_reducible refine Ext.alloc ?_ _) | (with_reducible assumption) | ((with_reducible refine Ext.setCell ?_ ?_ _); rotate_left; (first | exact Nat.le_refl _ | ((try dsimp only); (try simp only [World.size_alloc, grow_size, World.size_setCell]); omega)))))⟩
      · obtain rfl : k = n := by omega
        have hv : decide (L = M) = true := by
          refine decide_eq_true ?_
          have := HN.out
          rwa [List.take_of_length_le (by rw [HL.out]; exact Nat.le_refl _), List.take_of_length_le (by rw [HM.out]; exact Nat.le_refl _)] at this
        have HV := hid hv
        clear hv
        go_wp2
        go_ret
        exact ⟨by rw [HV.out]; rfl, HX.out⟩
  · have hv : decide (L = M) = false := decide_eq_false fun e => hnn (by rw [← HL.out, ← HM.out, e])
    have HV := hid hv
    clear hv
    have hz : ¬ (n : Int) = (n' : Int) := by omega
    go_enter Try.func15, Try.ntmps15
    go_wp2
    go_ret
    exact ⟨by rw [HV.out]; rfl, (by repeat (first | (with_reducible exact Ext.refl _) | (with_reducible refine Ext.undrew ?_) | (with_reducible refine Ext.grow ?_ _) | (with_reducible refine Ext.drew ?_) | (with_reducible refine Ext.drewN ?_ _) | (with_reducible refine Ext.alloc ?_ _) | (with_reducible assumption) | ((with_reducible refine Ext.setCell ?_ ?_ _); rotate_left; (first | exact Nat.le_refl _ | ((try dsimp only); (try simp only [World.size_alloc, grow_size, World.size_setCell]); omega)))))⟩

end Go.Proofs.Ytlapemeoffpmgaa
