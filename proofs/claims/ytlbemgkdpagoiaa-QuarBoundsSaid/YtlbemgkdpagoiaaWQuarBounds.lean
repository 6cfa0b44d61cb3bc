/- The walk of QuarBounds. -/
import Derived.Test.YtlbemgkdpagoiaaQuaO
namespace Go.Proofs.Ytlbemgkdpagoiaa
set_option linter.unusedSimpArgs false
set_option linter.unusedVariables false
open Go.RowKit

open Go.Deep Go.RowKit
namespace quarBounds
set_option maxRecDepth 100000 in
set_option maxHeartbeats 8000000 in
theorem walk (z0 : Hd) (a1 : Int) (w : World) (w0 : wfH z0) (w1 : (Lit.int .u16 a1).wf = true) :
    Calls Try.prog 6 #[.agg #[.int .i64 z0.at_, .int .i64 z0.n, .int .i64 z0.time], .int .u16 a1] w fun e w' => e = .returned (.bool true) ∧ Ext w w' := by
  have ha0 : 0 ≤ a1 ∧ a1 ≤ 65535 := by simpa [Lit.wf, IntKind.min, IntKind.max, IntKind.signed, IntKind.bits] using w1
  have hwa : wrap64 a1 = a1 := wrapN (by omega) (by omega)
  have hok1 : okQ [] (Hd.mk 16 32 a1) = true := by
    unfold okQ
    rw [lastT_nil]
    simp only [Bool.and_eq_true, Bool.not_eq_true', decide_eq_false_iff_not, decide_eq_true_eq]
    omega
  clear w0 w1
  go_enter Try.func6, Try.ntmps6
  go_upto_region 1 with (fail)
  refine wp_gen (fun W => Hid (Ext w W) ∧ Hid (Row W w.heap.size 0 [.int .i64 z0.at_, .int .i64 z0.n, .int .i64 z0.time])) ⟨hid (Ext.alloc (Ext.refl w) _), hid (Row.new w #[.int .i64 z0.at_, .int .i64 z0.n, .int .i64 z0.time] _)⟩ ?_
  rintro W0 ⟨hx0, hR0⟩
  have hbz0 := hR0.out.lt
  have hwz : w.heap.size ≤ W0.heap.size := hx0.out.size
  have HR0 := hid hR0.out.range
  clear hR0
  obtain ⟨bz, hbz⟩ : ∃ x, w.heap.size = x := ⟨_, rfl⟩
  rw [hbz] at hbz0 HR0 hwz
  have hwb0 : w.heap.size ≤ bz := Nat.le_of_eq hbz
  rw [hbz]
  clear hbz
  go_upto_region 2 with (go_at_call 8; refine Calls.mono (head_ _) ?_; rintro e wh ⟨rfl, hxh⟩)
  go_upto_region 3 with (go_at_call 9; refine (qnew_ 5 _ (by decide) (by decide)).mono ?_; rintro e w1 ⟨q, rfl, hwq, hxn, hq1⟩)
  have hbw : bz < wh.heap.size := Nat.lt_of_lt_of_le hbz0 hxh.size
  have hxw1 := hid ((hx0.out.trans hxh).trans hxn)
  have HR1 := hid (rg_ext HR0.out hbz0 (hxh.trans hxn))
  have hqz : bz < q := Nat.lt_of_lt_of_le hbw hwq
  have hbz1 : bz < w1.heap.size := Nat.lt_of_lt_of_le hbw hxn.size
  have HQ1 := hid hq1
  have hwb : w.heap.size ≤ wh.heap.size := Nat.le_trans (hx0.out.size) hxh.size
  clear hx0 hxh hxn HR0 hq1 hwz
  generalize wh.heap.size = base at HQ1 hwq hwb hbw
  go_upto_region 6 with (go_at_call 14; refine (qputT q base 5 _ [] _ (HQ1.out : Qs _ q base 5 (sumL []) (.slice none 0 0) []) goodL.nil (by decide) (Hd.mk 16 32 a1) hok1).mono ?_; rintro e w2 ⟨v2, rfl, HQ2, ho2, hv2⟩)
  replace HQ2 : Hid (Qs w2 q base 5 32 v2 [(Hd.mk 16 32 a1)]) := hid HQ2.out
  have hxw2 := hid (HQ1.out.extOf hxw1.out hwb ho2)
  have hbz2 : bz < w2.heap.size := Nat.lt_of_lt_of_le hbz1 ho2.size
  have HR2 := hid (rg_only HR1.out hbz1 ho2 (by
    rintro (h | h)
    · exact Nat.lt_irrefl _ (h ▸ hqz)
    · cases h))
  clear HQ1 hxw1 ho2 HR1 hv2 hwa
  have hwa : wrap64 a1 = a1 := wrapN (by omega) (by omega)
  have c0 : w2.cell? ⟨bz, 0, none⟩ = some (.int .i64 z0.at_) := HR2.out 0 _ rfl
  have c1 : w2.cell? ⟨bz, 1, none⟩ = some (.int .i64 z0.n) := HR2.out 1 _ rfl
  have c2 : w2.cell? ⟨bz, 2, none⟩ = some (.int .i64 z0.time) := HR2.out 2 _ rfl
  have hall : True := trivial
  by_cases k0 : 0 ≤ z0.at_
  · by_cases k1 : z0.at_ ≤ 16777216
    · by_cases k2 : 0 ≤ z0.n
      · by_cases k3 : z0.n ≤ 16777216
        · by_cases k4 : a1 ≤ z0.time
          · by_cases k5 : z0.time ≤ 2199023255552
            · have hok : okQ [(Hd.mk 16 32 a1)] z0 = true := (okQ_fine a1 z0).2 ⟨⟨k0, k1⟩, ⟨k2, k3⟩, k4, k5⟩
              have hg1 : goodL [(Hd.mk 16 32 a1)] := goodL.nil.put hok1
              have hws : wrap64 (32 + z0.n) = 32 + z0.n := wrapN (by omega) (by omega)
              clear hall
              go_upto_region 8 with (first | (with_reducible refine wpList_load_mid rfl 29 (.tmp 2) rfl bz 0 rfl [.int .i64 z0.at_, .int .i64 z0.n, .int .i64 z0.time] _ HR2.out Try.underlying29 rfl (by kernel_rfl) ?_) | (go_at_call 14; refine (qputT q base 5 _ [(Hd.mk 16 32 a1)] _ (HQ2.out : Qs _ q base 5 (sumL [(Hd.mk 16 32 a1)]) v2 [(Hd.mk 16 32 a1)]) hg1 (by simp) z0 hok).mono ?_; rintro e w3 ⟨v3, rfl, HQ3, ho3, hv3⟩))
              have hsum : sumL ([(Hd.mk 16 32 a1)] ++ [z0]) = 32 + z0.n := by rw [sumL_one]; rfl
              replace HQ3 : Hid (Qs w3 q base 5 (32 + z0.n) v3 [(Hd.mk 16 32 a1), z0]) := hid (by have := HQ3.out; rwa [hsum] at this)
              have hxw3 := hid (HQ2.out.extOf hxw2.out hwb ho3)
              have hbz3 : bz < w3.heap.size := Nat.lt_of_lt_of_le hbz2 ho3.size
              have HR3 := hid (rg_only HR2.out hbz2 ho3 (by
                rintro (h | h)
                · exact Nat.lt_irrefl _ (h ▸ hqz)
                · have := (HQ2.out.2.2.2.1.lt bz h).1; omega))
              have d1 : w3.cell? ⟨bz, 1, none⟩ = some (.int .i64 z0.n) := HR3.out 1 _ rfl
              have HX3 := hid (Ext.refl w3)
              clear hsum HQ2 HR2 HR3 hxw2 ho3 hv3 hok c0 c1 c2
              go_upto_region 10 with (fail)
              have hmany : ∀ w', Ext w3 w' → Calls Try.prog 18 #[.pointer (some ⟨q, 0, none⟩)] w' fun e w'' => e = .returned (.int .i64 2) ∧ w' = w'' := fun w' hx => (qmany_ q base 5 _ _ [(Hd.mk 16 32 a1), z0] w' (HQ3.out.ext hx)).mono (fun e w'' h => ⟨h.1, h.2.symm⟩)
              have hbytes : ∀ w', Ext w3 w' → Calls Try.prog 16 #[.pointer (some ⟨q, 0, none⟩)] w' fun e w'' => e = .returned (.int .i64 (32 + z0.n)) ∧ w' = w'' := fun w' hx => (qbytes_ q base 5 _ _ [(Hd.mk 16 32 a1), z0] w' (HQ3.out.ext hx)).mono (fun e w'' h => ⟨h.1, h.2.symm⟩)
              refine wp_region_grow (by kernel_rfl) (by kernel_rfl) (by first | (simp only [List.append]; rfl) | rfl) ?_
              (repeat (go_big_quiet_step (first | (go_at_call 18; exact growOfSame (hmany _ (by repeat (first | (with_reducible exact Ext.refl _) | (with_reducible refine Ext.undrew ?_) | (with_reducible refine Ext.grow ?_ _) | (with_reducible refine Ext.drew ?_) | (with_reducible refine Ext.drewN ?_ _) | (with_reducible refine Ext.alloc ?_ _) | (with_reducible assumption) | ((with_reducible refine Ext.setCell ?_ ?_ _); rotate_left; (first | exact Nat.le_refl _ | ((try dsimp only); (try simp only [World.size_alloc, grow_size, World.size_setCell]); omega))))))) | (go_at_call 16; exact growOfSame (hbytes _ (by repeat (first | (with_reducible exact Ext.refl _) | (with_reducible refine Ext.undrew ?_) | (with_reducible refine Ext.grow ?_ _) | (with_reducible refine Ext.drew ?_) | (with_reducible refine Ext.drewN ?_ _) | (with_reducible refine Ext.alloc ?_ _) | (with_reducible assumption) | ((with_reducible refine Ext.setCell ?_ ?_ _); rotate_left; (first | exact Nat.le_refl _ | ((try dsimp only); (try simp only [World.size_alloc, grow_size, World.size_setCell]); omega))))))))))
              refine wpQuiet_nil ?_
              intro wq hq
              obtain ⟨d, rfl⟩ := hq
              go_wp2
              go_ret
              exact ⟨rfl, hxw3.out.trans (by repeat (first | (with_reducible exact Ext.refl _) | (with_reducible refine Ext.undrew ?_) | (with_reducible refine Ext.grow ?_ _) | (with_reducible refine Ext.drew ?_) | (with_reducible refine Ext.drewN ?_ _) | (with_reducible refine Ext.alloc ?_ _) | (with_reducible assumption) | ((with_reducible refine Ext.setCell ?_ ?_ _); rotate_left; (first | exact Nat.le_refl _ | ((try dsimp only); (try simp only [World.size_alloc, grow_size, World.size_setCell]); omega)))))⟩
            · have hno : okQ [(Hd.mk 16 32 a1)] z0 = false := okQ_not (by omega)
              clear hall
              go_upto_region 8 with (first | (with_reducible refine wpList_load_mid rfl 29 (.tmp 2) rfl bz 0 rfl [.int .i64 z0.at_, .int .i64 z0.n, .int .i64 z0.time] _ HR2.out Try.underlying29 rfl (by kernel_rfl) ?_) | (go_at_call 14; refine (qput_no q base 5 _ _ _ _ HQ2.out (by simp) z0 hno).mono ?_; rintro e w3 ⟨rfl, hx3⟩))
              have HQ3 : Hid (Qs w3 q base 5 32 v2 [(Hd.mk 16 32 a1)]) := hid (HQ2.out.ext hx3)
              have hxw3 := hid (hxw2.out.trans hx3)
              clear HQ2 hxw2 hx3
              go_wp2_with (first | (go_at_call 18; refine (qmany_ q base 5 _ _ _ _ HQ3.out).mono ?_; rintro e w9 ⟨rfl, rfl⟩) | (go_at_call 16; refine (qbytes_ q base 5 _ _ _ _ HQ3.out).mono ?_; rintro e w9 ⟨rfl, rfl⟩))
              go_ret
              exact ⟨rfl, hxw3.out⟩
          · have hno : okQ [(Hd.mk 16 32 a1)] z0 = false := okQ_not (by omega)
            clear hall
            go_upto_region 8 with (first | (with_reducible refine wpList_load_mid rfl 29 (.tmp 2) rfl bz 0 rfl [.int .i64 z0.at_, .int .i64 z0.n, .int .i64 z0.time] _ HR2.out Try.underlying29 rfl (by kernel_rfl) ?_) | (go_at_call 14; refine (qput_no q base 5 _ _ _ _ HQ2.out (by simp) z0 hno).mono ?_; rintro e w3 ⟨rfl, hx3⟩))
            have HQ3 : Hid (Qs w3 q base 5 32 v2 [(Hd.mk 16 32 a1)]) := hid (HQ2.out.ext hx3)
            have hxw3 := hid (hxw2.out.trans hx3)
            clear HQ2 hxw2 hx3
            go_wp2_with (first | (go_at_call 18; refine (qmany_ q base 5 _ _ _ _ HQ3.out).mono ?_; rintro e w9 ⟨rfl, rfl⟩) | (go_at_call 16; refine (qbytes_ q base 5 _ _ _ _ HQ3.out).mono ?_; rintro e w9 ⟨rfl, rfl⟩))
            go_ret
            exact ⟨rfl, hxw3.out⟩
        · have hno : okQ [(Hd.mk 16 32 a1)] z0 = false := okQ_not (by omega)
          clear hall
          go_upto_region 8 with (first | (with_reducible refine wpList_load_mid rfl 29 (.tmp 2) rfl bz 0 rfl [.int .i64 z0.at_, .int .i64 z0.n, .int .i64 z0.time] _ HR2.out Try.underlying29 rfl (by kernel_rfl) ?_) | (go_at_call 14; refine (qput_no q base 5 _ _ _ _ HQ2.out (by simp) z0 hno).mono ?_; rintro e w3 ⟨rfl, hx3⟩))
          have HQ3 : Hid (Qs w3 q base 5 32 v2 [(Hd.mk 16 32 a1)]) := hid (HQ2.out.ext hx3)
          have hxw3 := hid (hxw2.out.trans hx3)
          clear HQ2 hxw2 hx3
          go_wp2_with (first | (go_at_call 18; refine (qmany_ q base 5 _ _ _ _ HQ3.out).mono ?_; rintro e w9 ⟨rfl, rfl⟩) | (go_at_call 16; refine (qbytes_ q base 5 _ _ _ _ HQ3.out).mono ?_; rintro e w9 ⟨rfl, rfl⟩))
          go_ret
          exact ⟨rfl, hxw3.out⟩
      · have hno : okQ [(Hd.mk 16 32 a1)] z0 = false := okQ_not (by omega)
        clear hall
        go_upto_region 8 with (first | (with_reducible refine wpList_load_mid rfl 29 (.tmp 2) rfl bz 0 rfl [.int .i64 z0.at_, .int .i64 z0.n, .int .i64 z0.time] _ HR2.out Try.underlying29 rfl (by kernel_rfl) ?_) | (go_at_call 14; refine (qput_no q base 5 _ _ _ _ HQ2.out (by simp) z0 hno).mono ?_; rintro e w3 ⟨rfl, hx3⟩))
        have HQ3 : Hid (Qs w3 q base 5 32 v2 [(Hd.mk 16 32 a1)]) := hid (HQ2.out.ext hx3)
        have hxw3 := hid (hxw2.out.trans hx3)
        clear HQ2 hxw2 hx3
        go_wp2_with (first | (go_at_call 18; refine (qmany_ q base 5 _ _ _ _ HQ3.out).mono ?_; rintro e w9 ⟨rfl, rfl⟩) | (go_at_call 16; refine (qbytes_ q base 5 _ _ _ _ HQ3.out).mono ?_; rintro e w9 ⟨rfl, rfl⟩))
        go_ret
        exact ⟨rfl, hxw3.out⟩
    · have hno : okQ [(Hd.mk 16 32 a1)] z0 = false := okQ_not (by omega)
      clear hall
      go_upto_region 8 with (first | (with_reducible refine wpList_load_mid rfl 29 (.tmp 2) rfl bz 0 rfl [.int .i64 z0.at_, .int .i64 z0.n, .int .i64 z0.time] _ HR2.out Try.underlying29 rfl (by kernel_rfl) ?_) | (go_at_call 14; refine (qput_no q base 5 _ _ _ _ HQ2.out (by simp) z0 hno).mono ?_; rintro e w3 ⟨rfl, hx3⟩))
      have HQ3 : Hid (Qs w3 q base 5 32 v2 [(Hd.mk 16 32 a1)]) := hid (HQ2.out.ext hx3)
      have hxw3 := hid (hxw2.out.trans hx3)
      clear HQ2 hxw2 hx3
      go_wp2_with (first | (go_at_call 18; refine (qmany_ q base 5 _ _ _ _ HQ3.out).mono ?_; rintro e w9 ⟨rfl, rfl⟩) | (go_at_call 16; refine (qbytes_ q base 5 _ _ _ _ HQ3.out).mono ?_; rintro e w9 ⟨rfl, rfl⟩))
      go_ret
      exact ⟨rfl, hxw3.out⟩
  · have hno : okQ [(Hd.mk 16 32 a1)] z0 = false := okQ_not (by omega)
    clear hall
    go_upto_region 8 with (first | (with_reducible refine wpList_load_mid rfl 29 (.tmp 2) rfl bz 0 rfl [.int .i64 z0.at_, .int .i64 z0.n, .int .i64 z0.time] _ HR2.out Try.underlying29 rfl (by kernel_rfl) ?_) | (go_at_call 14; refine (qput_no q base 5 _ _ _ _ HQ2.out (by simp) z0 hno).mono ?_; rintro e w3 ⟨rfl, hx3⟩))
    have HQ3 : Hid (Qs w3 q base 5 32 v2 [(Hd.mk 16 32 a1)]) := hid (HQ2.out.ext hx3)
    have hxw3 := hid (hxw2.out.trans hx3)
    clear HQ2 hxw2 hx3
    go_wp2_with (first | (go_at_call 18; refine (qmany_ q base 5 _ _ _ _ HQ3.out).mono ?_; rintro e w9 ⟨rfl, rfl⟩) | (go_at_call 16; refine (qbytes_ q base 5 _ _ _ _ HQ3.out).mono ?_; rintro e w9 ⟨rfl, rfl⟩))
    go_ret
    exact ⟨rfl, hxw3.out⟩
end quarBounds

end Go.Proofs.Ytlbemgkdpagoiaa
