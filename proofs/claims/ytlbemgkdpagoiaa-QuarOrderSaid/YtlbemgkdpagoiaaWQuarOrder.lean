/- The walk of QuarOrder. -/
import Derived.Test.YtlbemgkdpagoiaaQuaS
import Derived.Deep.DrawnRows
namespace Go.Proofs.Ytlbemgkdpagoiaa
set_option linter.unusedSimpArgs false
set_option linter.unusedVariables false
open Go.RowKit

open Go.Deep Go.RowKit
attribute [local go_sem ↓] Go.wp_at_zero Go.wp_at_succ
namespace quarOrder
set_option maxRecDepth 100000 in
set_option maxHeartbeats 8000000 in
theorem walk (A0 : Option Addr) (cap0 : Nat) (zs0 : List QOp) (w : World) (wl0 : zs0.length ≤ maxLen) (hs0 : SlAtN w A0 5 (zs0.map QOp.cells)) (wz0 : ∀ z ∈ zs0, z.good) :
    Calls Try.prog 4 #[.slice A0 zs0.length cap0] w fun e w' => e = .returned (.bool true) ∧ Ext w w' := by
  unfold maxLen at wl0
  by_cases hlen : zs0.length ≤ 300
  · have HSL := hid hs0
    have hli : ¬ (300 : Int) < (zs0.length : Int) := by omega
    clear hs0 wz0
    go_enter Try.func4, Try.ntmps4
    go_upto_region 2 with (go_at_call 8; refine Calls.mono (head_ _) ?_; rintro e wh ⟨rfl, hxh⟩)
    go_upto_region 3 with (go_at_call 9; refine (qnew_ 100 _ (by decide) (by decide)).mono ?_; rintro e w1 ⟨q, rfl, hwq, hxn, hq1⟩)
    obtain ⟨base2, hb2⟩ : ∃ x, w1.heap.size = x := ⟨_, rfl⟩
    have HB0 : Hid (QO w w1 q wh.heap.size (.slice none 0 0) [] base2 (.slice none 0 0) []) := hid ⟨hq1, ownsAt_nil _ _ _ _, Apt.nil _ _, hxh.trans hxn, hxh.size, by have := hxh.size; have := hxn.size; omega, by omega⟩
    clear hxh hxn hq1 hwq hb2
    generalize wh.heap.size = base at HB0
    obtain ⟨i0, z0, hi0, hz0, hz1, hz2, hz3⟩ := held_info
    have HI0 := hid hi0
    have HZ0 := hid hz0
    clear hi0 hz0
    go_wp2
    go_loopw [5, 6, 7, 8] (fun va ou by_ i wr => ∃ (k : Nat) (pre l al : List Hd) (v : Value), k ≤ zs0.length ∧ i = .int .i64 k ∧ al.length ≤ k ∧ ou = .int .i64 pre.length ∧ by_ = .int .i64 (sumL l) ∧ Hid (al = pre ++ l) ∧ Hid (goodL l) ∧ Hid (QO w wr q base v l base2 va al)) (fun _ _ _ i _ => zs0.length - (intOf i).toNat)
    case atStart => exact ⟨0, [], [], [], _, Nat.zero_le _, rfl, Nat.le_refl _, rfl, rfl, hid rfl, hid goodL.nil, HB0⟩
    case round =>
      clear HB0
      obtain ⟨k, pre, l, al, v, hk, rfl, hlk, rfl, rfl, HAL, HG, HB⟩ := hrel
      have HLE : Hid (al.length = pre.length + l.length) := hid (by rw [HAL.out, List.length_append])
      have hl3 : l.length ≤ 300 := by have := HLE.out; omega
      have hp3 : pre.length ≤ 300 := by have := HLE.out; omega
      have ha3 : al.length ≤ 300 := by omega
      obtain ⟨Aa, ca, rfl, hca, hcn⟩ := HB.out.ha.shape
      by_cases hlt : k < zs0.length
      · obtain ⟨z, hz⟩ : ∃ z, zs0[k] = z := ⟨_, rfl⟩
        obtain ⟨b0, o, rfl, hb0, hop⟩ := QOp.facts HSL.out hlt z hz
        have HOP : Hid (wr.rangeAt b0 (o + k * 5) [.int .i64 z.what, .int .i64 z.h.at_, .int .i64 z.h.n, .int .i64 z.h.time, .int .i64 z.now]) := hid (rg_ext hop hb0 HB.out.ex)
        clear hop hz
        have hk1 : (k : Int) < (zs0.length : Int) := by omega
        have hk0 : k + 1 ≤ zs0.length := by omega
        have hk3 : (0 : Int) ≤ (k : Int) := by omega
        go_upto_region 12 with (with_reducible refine wpList_load_mid rfl 31 (.tmp 34) rfl b0 (o + k * 5) rfl [.int .i64 z.what, .int .i64 z.h.at_, .int .i64 z.h.n, .int .i64 z.h.time, .int .i64 z.now] _ HOP.out Try.underlying31 rfl (by kernel_rfl) ?_)
        refine wp_gen (fun W => Hid (Ext wr W) ∧ Hid (Row W wr.heap.size 0 [.int .i64 z.what, .int .i64 z.h.at_, .int .i64 z.h.n, .int .i64 z.h.time, .int .i64 z.now])) ⟨hid (Ext.alloc (Ext.refl wr) _), hid (Row.new wr #[.int .i64 z.what, .int .i64 z.h.at_, .int .i64 z.h.n, .int .i64 z.h.time, .int .i64 z.now] _)⟩ ?_
        rintro W1 ⟨hx1, hR1⟩
        have HB1 := hid (HB.out.ext hx1.out)
        have hbo := hR1.out.lt
        have HBX := hid hR1.out.range
        have HBH : Hid (W1.rangeAt wr.heap.size 1 [.int .i64 z.h.at_, .int .i64 z.h.n, .int .i64 z.h.time]) := hid (by have := QOp.held (z := z) (o := 0) HBX.out; rwa [Nat.zero_add] at this)
        have hbt : ¬ tch q v wr.heap.size := by
          rintro (h | h)
          · have := HB.out.hq.1; omega
          · have := (HB.out.hq.2.2.2.1.lt _ h).2; omega
        have hbq : ¬ wr.heap.size = q := fun h => hbt (.inl h)
        have HAV : Hid (∀ g, (Value.slice Aa al.length ca).ownBlock = some g → g < wr.heap.size) := hid (fun g e => (HB.out.ha.lt g e).2)
        clear HB hx1 HOP hR1 hca hcn
        generalize wr.heap.size = bo at HBX HBH hbo hbt hbq HAV ⊢
        have hcw : W1.cell? ⟨bo, 0, none⟩ = some (.int .i64 z.what) := HBX.out 0 _ rfl
        have hcn : W1.cell? ⟨bo, 4, none⟩ = some (.int .i64 z.now) := HBX.out 4 _ rfl
        by_cases hw : z.what = 3
        · rw [hw] at hcw
          obtain ⟨now, hnow⟩ : ∃ x, z.now = x := ⟨_, rfl⟩
          rw [hnow] at hcn
          obtain ⟨tk, htk⟩ : ∃ tk, l.takeWhile (dueB now) = tk := ⟨_, rfl⟩
          obtain ⟨rest, hrest⟩ : ∃ x, l.drop tk.length = x := ⟨_, rfl⟩
          have hsp : tk ++ rest = l := by rw [← hrest, ← htk]; exact tw_split _ l
          have HSP := hid hsp
          have HT := hid htk
          have HT2 := hid hrest
          have HGT : Hid (goodL (tk ++ rest)) := hid (by rw [hsp]; exact HG.out)
          have HGD : Hid (goodL tk) := hid (fun x hx => HGT.out x (List.mem_append_left _ hx))
          have HGR : Hid (goodL rest) := hid (fun x hx => HGT.out x (List.mem_append_right _ hx))
          have HDU : Hid (∀ x ∈ tk, dueB now x = true) := hid (fun x hx => tw_prop _ l x (by rw [htk]; exact hx))
          have HNX : Hid (∀ y r, rest = y :: r → dueB now y = false) := hid (fun y r e => tw_next (dueB now) l (by rw [htk, hrest]; exact e))
          have HTL : Hid (pre.length + (tk.length + rest.length) ≤ 300) := hid (by have := HLE.out; have := congrArg List.length hsp; rw [List.length_append] at this; omega)
          have HLA : Hid (al.length = pre.length + (tk.length + rest.length)) := hid (by have := HLE.out; have := congrArg List.length hsp; rw [List.length_append] at this; omega)
          have HGET : Hid (∀ i (hi : i < tk.length) u (_ : u = pre.length + i) (hu : u < al.length), al[u]'hu = tk[i]) := hid (fun i hi u e hu => by
            subst e
            have e1 := HAL.out
            rw [← hsp] at e1
            subst e1
            rw [List.getElem_append_right (by omega)]
            simp only [Nat.add_sub_cancel_left]
            exact List.getElem_append_left hi)
          clear hsp htk hrest hnow
          go_upto_region 14 with (go_at_call 12; refine (oDue w q base _ _ base2 _ _ _ HB1.out HG.out (by omega) now tk rest HT.out HT2.out).mono ?_; rintro e w3 ⟨A3, c3, v3, rfl, HB3, HR3, HO3⟩)
          have hbo3 : bo < w3.heap.size := Nat.lt_of_lt_of_le hbo HO3.out.size
          have hnow3 : w3.cell? ⟨bo, 4, none⟩ = some (.int .i64 now) := (HO3.out.cells bo 4 hbo hbq).trans hcn
          replace HAL : Hid (al = pre ++ (tk ++ rest)) := hid (by rw [HSP.out]; exact HAL.out)
          have HRA : Hid (RdH w3 Aa al) := hid (HB3.out.ha.rdH rfl)
          clear HB1 HO3 hcn hcw HBX HT HT2 hbt hbq hbo HG
          go_wp2
          have hx30 := hid (Ext.refl w3)
          go_loopw [6, 7, 11] (fun ou by_ j wr => ∃ (i u : Nat), i ≤ tk.length ∧ j = .int .i64 i ∧ ou = .int .i64 u ∧ Hid (u = pre.length + i) ∧ by_ = .int .i64 (sumL ((tk ++ rest).drop i)) ∧ Hid (Ext w3 wr)) (fun _ _ j _ => tk.length - (intOf j).toNat)
          case atStart => exact ⟨0, pre.length, Nat.zero_le _, rfl, rfl, hid rfl, by rw [List.drop_zero, HSP.out], hx30⟩
          case round =>
            clear hx30
            obtain ⟨i, u, hi, rfl, rfl, hu, rfl, hx3⟩ := hrel
            by_cases hit : i < tk.length
            · obtain ⟨b5, o5, rfl, hb5, c0, c1, c2⟩ := (HR3.out.ext hx3.out).three hit
              obtain ⟨g, oo, rfl, hgb, d0, d1, d2⟩ := (HRA.out.ext hx3.out).three (k := u) (by rw [HLA.out, hu.out]; omega)
              have hxt : al[u]'(by rw [HLA.out, hu.out]; omega) = tk[i] := HGET.out i hit u hu.out _
              rw [hxt] at d0 d1 d2
              have hx0 := HGD.out _ (List.getElem_mem hit)
              have hdu := due_le (HDU.out _ (List.getElem_mem hit)) hx0.2
              have hgr := HGT.out.drop i
              have hbd := sumL_bound hgr
              have hdl := List.drop_eq_getElem_cons (l := tk ++ rest) (i := i) (by rw [List.length_append]; omega)
              have hge : (tk ++ rest)[i]'(by rw [List.length_append]; omega) = tk[i] := List.getElem_append_left hit
              rw [hge] at hdl
              have hsm : sumL ((tk ++ rest).drop i) = (tk[i]).n + sumL ((tk ++ rest).drop (i + 1)) := by rw [hdl, sumL_cons]
              have hgr2 := HGT.out.drop (i + 1)
              have hbd2 := sumL_bound hgr2
              have hln2 : (((tk ++ rest).drop (i + 1)).length : Int) ≤ 300 := by rw [List.length_drop, List.length_append]; have := HTL.out; omega
              generalize (tk[i]).at_ = xa at c0 d0
              obtain ⟨xn, hxn⟩ : ∃ x, (tk[i]).n = x := ⟨_, rfl⟩
              obtain ⟨xt, hxtt⟩ : ∃ x, (tk[i]).time = x := ⟨_, rfl⟩
              rw [hxn] at c1 d1 hsm hx0
              rw [hxtt] at c2 d2 hdu hx0
              obtain ⟨s1, hs1⟩ : ∃ x, sumL ((tk ++ rest).drop (i + 1)) = x := ⟨_, rfl⟩
              obtain ⟨s0, hs0⟩ : ∃ x, sumL ((tk ++ rest).drop i) = x := ⟨_, rfl⟩
              rw [hs1] at hsm hbd2
              rw [hs0] at hsm ⊢
              have hsw : wrap64 (s0 - xn) = s1 := by rw [hsm, show xn + s1 - xn = s1 by omega]; exact wrapN (by omega) (by omega)
              have hu1 : (u : Int) < (al.length : Int) := by have := HLA.out; have := hu.out; omega
              have hu2 : ¬ (al.length : Int) ≤ (u : Int) := by omega
              have hu0 : (0 : Int) ≤ (u : Int) := by omega
              have hi0 : (0 : Int) ≤ (i : Int) := by omega
              have hi1 : (i : Int) < (tk.length : Int) := by omega
              have n2 : ¬ now < xt + 2 := by omega
              have w2_ : wrap64 (xt + 2) = xt + 2 := wrapB (by omega) (by omega)
              have hnc : wr.cell? ⟨bo, 4, none⟩ = some (.int .i64 now) := (hx3.out.cells bo 4 hbo3).trans hnow3
              have hu3 : (u : Int) + 1 ≤ 1000 := by have := hu.out; have := HTL.out; omega
              have hi3 : (i : Int) + 1 ≤ 1000 := by have := HTL.out; omega
              have HU := hid hu.out
              have hi2 : i + 1 ≤ tk.length := hit
              have HX3 := hx3
              clear hxt hgr hbd hdl hge hgr2 hbd2 hln2 hxn hxtt hs0 hsm hu hx3
              have hbo4 : bo < wr.heap.size := Nat.lt_of_lt_of_le hbo3 HX3.out.size
              rcases (show xt % 2 = 1 ∨ xt % 2 = 0 by omega) with hp | hp
              · have hp1 : xt.tmod 2 = 1 := by rw [Int.tmod_eq_emod_of_nonneg hx0.2.1]; exact hp
                have n3 : ¬ now < xt + 3 := by omega
                have w3_ : wrap64 (xt + 3) = xt + 3 := wrapB (by omega) (by omega)
                clear hdu hp hx0
                go_upto_region 17 with (fail)
                refine wp_region_grow (by kernel_rfl) (by kernel_rfl) (by first | (simp only [List.append]; rfl) | rfl) ?_
                (repeat (go_big_quiet_step (fail)))
                refine wpQuiet_nil ?_
                intro wq hq
                obtain ⟨d, rfl⟩ := hq
                go_wp2
                go_roundw
                case rel => exact ⟨i + 1, u + 1, hi2, by go_num, by go_num, hid (by have := HU.out; omega), by rw [hs1, hsw], hid (HX3.out.trans (by repeat (first | (with_reducible exact Ext.refl _) | (with_reducible refine Ext.undrew ?_) | (with_reducible refine Ext.grow ?_ _) | (with_reducible refine Ext.drew ?_) | (with_reducible refine Ext.drewN ?_ _) | (with_reducible refine Ext.alloc ?_ _) | (with_reducible assumption) | ((with_reducible refine Ext.setCell ?_ ?_ _); rotate_left; (first | exact Nat.le_refl _ | ((try dsimp only); (try simp only [World.size_alloc, grow_size, World.size_setCell]); omega))))))⟩
                case measure => simp [intOf]; omega
              · have hp1 : xt.tmod 2 = 0 := by rw [Int.tmod_eq_emod_of_nonneg hx0.2.1]; exact hp
                clear hdu hp hx0
                go_upto_region 17 with (fail)
                refine wp_region_grow (by kernel_rfl) (by kernel_rfl) (by first | (simp only [List.append]; rfl) | rfl) ?_
                (repeat (go_big_quiet_step (fail)))
                refine wpQuiet_nil ?_
                intro wq hq
                obtain ⟨d, rfl⟩ := hq
                go_wp2
                go_roundw
                case rel => exact ⟨i + 1, u + 1, hi2, by go_num, by go_num, hid (by have := HU.out; omega), by rw [hs1, hsw], hid (HX3.out.trans (by repeat (first | (with_reducible exact Ext.refl _) | (with_reducible refine Ext.undrew ?_) | (with_reducible refine Ext.grow ?_ _) | (with_reducible refine Ext.drew ?_) | (with_reducible refine Ext.drewN ?_ _) | (with_reducible refine Ext.alloc ?_ _) | (with_reducible assumption) | ((with_reducible refine Ext.setCell ?_ ?_ _); rotate_left; (first | exact Nat.le_refl _ | ((try dsimp only); (try simp only [World.size_alloc, grow_size, World.size_setCell]); omega))))))⟩
                case measure => simp [intOf]; omega
            · obtain rfl : i = tk.length := by omega
              have hi1 : ¬ (tk.length : Int) < (tk.length : Int) := by omega
              have hdt : (tk ++ rest).drop tk.length = rest := List.drop_left
              rw [hdt]
              have HB4 := hid (HB3.out.ext hx3.out)
              have hnc : wr.cell? ⟨bo, 4, none⟩ = some (.int .i64 now) := (hx3.out.cells bo 4 hbo3).trans hnow3
              have hul : u = pre.length + tk.length := hu.out
              have HRA4 := hid (HRA.out.ext hx3.out)
              have hbo4 : bo < wr.heap.size := Nat.lt_of_lt_of_le hbo3 hx3.out.size
              clear hdt HB3 HR3 hx3 HGET HDU HGD hu
              obtain ⟨pre2, hpre2⟩ : ∃ x, pre ++ tk = x := ⟨_, rfl⟩
              have hup : u = pre2.length := by rw [← hpre2, List.length_append]; exact hul
              have HAL9 : Hid (al = pre2 ++ rest) := hid (by rw [HAL.out, ← hpre2, List.append_assoc])
              have HL2 : Hid (al.length = pre2.length + rest.length) := hid (by rw [HAL9.out, List.length_append])
              subst hup
              clear hul hpre2 HAL HLA
              have HG9 := HGR
              cases hrs : rest with
              | nil =>
                rw [hrs] at HB4 HL2 HAL9 HG9
                have hn1 : ¬ (pre2.length : Int) < (al.length : Int) := by have := HL2.out; simp at this; omega
                have hn1n : ¬ pre2.length < al.length := by omega
                have hsub : (al.length : Int) - (pre2.length : Int) = 0 := by have := HL2.out; simp at this; omega
                go_wp2
                refine wp_region_grow (by kernel_rfl) (by kernel_rfl) (by first | (simp only [List.append]; rfl) | rfl) ?_
                (repeat (go_big_quiet_step (fail)))
                refine wpQuiet_nil ?_
                intro wq hq
                obtain ⟨d, rfl⟩ := hq
                have HB9 := hid (HB4.out.ext (Ext.grow (Ext.refl _) d))
                have HL0 : Hid (al.length ≤ k) := hid (by omega)
                go_wp2_with (first | (go_at_call 16; refine (oBytes w q base _ _ base2 _ _ _ HB9.out).mono ?_; rintro e w9 ⟨rfl, rfl⟩) | (go_at_call 18; refine (oMany w q base _ _ base2 _ _ _ HB9.out).mono ?_; rintro e w9 ⟨rfl, rfl⟩) | (go_at_call 20; refine (oFull w q base _ _ base2 _ _ _ HB9.out).mono ?_; rintro e w11 ⟨rfl, HB11⟩))
                go_roundw
                case rel => exact ⟨k + 1, pre2, [], al, _, hk0, by go_num, by omega, rfl, rfl, HAL9, HG9, HB11⟩
                case measure => simp [intOf]; omega
              | cons y r =>
                rw [hrs] at HB4 HL2 HAL9 HG9
                have hn1 : (pre2.length : Int) < (al.length : Int) := by have := HL2.out; simp at this; omega
                have hn1n : pre2.length < al.length := by omega
                have hn0 : (0 : Int) ≤ (pre2.length : Int) := by omega
                have hyt := (HG9.out y List.mem_cons_self).2
                have hy0 : -9223372036854775808 ≤ y.time := by omega
                have hy1 : y.time ≤ 9223372036854775807 := by omega
                have hnd : ¬ whenT y.time ≤ now := by have := HNX.out y r hrs; simpa [dueB] using this
                have hwh : ∀ w', Calls Try.prog 24 #[.int .i64 y.time] w' fun e w'' => e = .returned (.int .i64 (whenT y.time)) ∧ w' = w'' := fun w' => when_ y.time w' hy0 hy1
                clear hyt
                have hsub : (al.length : Int) - (pre2.length : Int) = ((y :: r).length : Int) := by have := HL2.out; simp at this ⊢; omega
                obtain ⟨g, oo, rfl, hgb, _, _, d2⟩ := HRA4.out.three (k := pre2.length) (by have := HL2.out; simp at this; omega)
                have hgy : al[pre2.length]'hn1n = y := by
                  have e := HAL9.out
                  subst e
                  rw [List.getElem_append_right (Nat.le_refl _)]
                  simp
                rw [hgy] at d2
                clear hgy hy0 hy1
                go_wp2
                refine wp_region_grow (by kernel_rfl) (by kernel_rfl) (by first | (simp only [List.append]; rfl) | rfl) ?_
                (repeat (go_big_quiet_step (first | (go_at_call 24; exact growOfSame (hwh _)))))
                refine wpQuiet_nil ?_
                intro wq hq
                obtain ⟨d, rfl⟩ := hq
                have HB9 := hid (HB4.out.ext (Ext.grow (Ext.refl _) d))
                clear hrs hwh d2 HB4
                generalize y :: r = l3 at HB9 HG9 HAL9 hsub HL2 ⊢
                go_wp2_with (first | (go_at_call 16; refine (oBytes w q base _ _ base2 _ _ _ HB9.out).mono ?_; rintro e w9 ⟨rfl, rfl⟩) | (go_at_call 18; refine (oMany w q base _ _ base2 _ _ _ HB9.out).mono ?_; rintro e w9 ⟨rfl, rfl⟩) | (go_at_call 20; refine (oFull w q base _ _ base2 _ _ _ HB9.out).mono ?_; rintro e w11 ⟨rfl, HB11⟩))
                go_roundw
                case rel => exact ⟨k + 1, pre2, l3, al, _, hk0, by go_num, by omega, rfl, rfl, HAL9, HG9, HB11⟩
                case measure => simp [intOf]; omega
        · cases hok : okQ l z.h with
          | false =>
            have hsub : (al.length : Int) - (pre.length : Int) = (l.length : Int) := by have := HLE.out; omega
            go_upto_region 26 with (first | (with_reducible refine wpList_load_mid rfl 29 (.tmp 120) rfl bo 1 rfl [.int .i64 z.h.at_, .int .i64 z.h.n, .int .i64 z.h.time] _ (HBH.out) Try.underlying29 rfl (by kernel_rfl) ?_) | (go_at_call 14; refine (oNo w q base _ _ base2 _ _ _ HB1.out HG.out (by omega) z.h hok).mono ?_; rintro e w2 ⟨rfl, HB9⟩))
            have HAL9 := HAL
            have HG9 := HG
            clear HB1 HBX hcw hcn
            go_wp2_with (first | (go_at_call 16; refine (oBytes w q base _ _ base2 _ _ _ HB9.out).mono ?_; rintro e w9 ⟨rfl, rfl⟩) | (go_at_call 18; refine (oMany w q base _ _ base2 _ _ _ HB9.out).mono ?_; rintro e w9 ⟨rfl, rfl⟩) | (go_at_call 20; refine (oFull w q base _ _ base2 _ _ _ HB9.out).mono ?_; rintro e w11 ⟨rfl, HB11⟩))
            go_roundw
            case rel => exact ⟨k + 1, pre, l, al, _, hk0, by go_num, by omega, rfl, rfl, HAL9, HG9, HB11⟩
            case measure => simp [intOf]; omega
          | true =>
            have HG9 := hid (HG.out.put hok)
            have hzn := okQ_n HG.out hok
            have hbd := sumL_bound HG.out
            have hsw1 : wrap64 (sumL l + z.h.n) = sumL l + z.h.n := wrapN (by omega) (by omega)
            clear hbd hzn
            go_upto_region 24 with (first | (with_reducible refine wpList_load_mid rfl 29 (.tmp 120) rfl bo 1 rfl [.int .i64 z.h.at_, .int .i64 z.h.n, .int .i64 z.h.time] _ (HBH.out) Try.underlying29 rfl (by kernel_rfl) ?_) | (go_at_call 14; refine (oPut w q base _ _ base2 _ _ _ HB1.out HG.out (by omega) z.h hok).mono ?_; rintro e w2 ⟨v2, rfl, HB2, ho2⟩))
            replace HBX := hid (rg_only HBX.out hbo ho2.out hbt)
            replace HBH := hid (rg_only HBH.out hbo ho2.out hbt)
            have hbo2 : bo < w2.heap.size := Nat.lt_of_lt_of_le hbo ho2.out.size
            clear HB1 ho2 hcw hcn
            go_upto_region 25 with (first | (with_reducible refine wpList_load_mid rfl 29 (.tmp 124) rfl bo 1 rfl [.int .i64 z.h.at_, .int .i64 z.h.n, .int .i64 z.h.time] _ (HBH.out) Try.underlying29 rfl (by kernel_rfl) ?_) | (at_builtin; refine wpList_plain rfl fun K hK => ?_; refine wp_append_at _ _ _ 33 rfl base2 29 i0 z0 3 24 Try.underlying33 HI0.out HZ0.out hz2 hz3 hz1 (by decide) _ _ _ rfl (HB2.out.ha.ext (Ext.alloc (Ext.refl _) _)) ⟨w2.heap.size, 0, none⟩ 1 1 [.int .i64 z.h.at_, .int .i64 z.h.n, .int .i64 z.h.time] rfl rfl (fun j u hj => by rw [Addr.add_lit]; exact (Row.new w2 _ _).range j u hj) (hd_one z.h) (by unfold maxLen; omega) (by omega) (by have := HB2.out.b3; simp; omega) (by omega) ?_; intro v3 w3 hown3 hgrow3 hat3; refine hK _ _ ?_; clear hK K))
            have hx3 : Ext w2 (w2.alloc (.cells #[.int .i64 z.h.at_, .int .i64 z.h.n, .int .i64 z.h.time] 29)) := Ext.alloc (Ext.refl _) _
            obtain ⟨Ab, cb, rfl, _, _⟩ := hown3.shape
            have HB9 := hid ((HB2.out.ext hx3).app (z := z.h) hown3 hgrow3 hat3)
            have HBX3 := rg_only (rg_ext HBX.out hbo2 hx3) (Nat.lt_of_lt_of_le hbo2 hx3.size) (grownOnly (S := fun i => (Value.slice Aa al.length ca).ownBlock = some i) hgrow3 fun g e => e) (fun e => Nat.lt_irrefl _ (HAV.out bo e))
            have hc2 : w3.cell? ⟨bo, 2, none⟩ = some (.int .i64 z.h.n) := HBX3 2 _ rfl
            have hs2 : sumL (l ++ [z.h]) = sumL l + z.h.n := sumL_one l z.h
            have HL2 : Hid (al.length + 1 = pre.length + (l.length + 1)) := hid (by have := HLE.out; omega)
            have HAL9 : Hid (al ++ [z.h] = pre ++ (l ++ [z.h])) := hid (by rw [HAL.out, List.append_assoc])
            have hl2e : (l ++ [z.h]).length = l.length + 1 := by simp
            have hal2e : (al ++ [z.h]).length = al.length + 1 := by simp
            obtain ⟨l2, hl2⟩ : ∃ x, l ++ [z.h] = x := ⟨_, rfl⟩
            obtain ⟨al2, hal2⟩ : ∃ x, al ++ [z.h] = x := ⟨_, rfl⟩
            rw [hl2] at HB9 HG9 HAL9 hs2 hl2e
            rw [hal2] at HB9 HAL9 hal2e
            have hall : al2.length ≤ k + 1 := by omega
            have hsub : (al.length : Int) + 1 - (pre.length : Int) = (l2.length : Int) := by have := HL2.out; omega
            clear HB2 HBX HBX3 hx3 hown3 hgrow3 hat3 hl2 hal2 hl2e
            go_wp2_with (first | (go_at_call 16; refine (oBytes w q base _ _ base2 _ _ _ HB9.out).mono ?_; rintro e w9 ⟨rfl, rfl⟩) | (go_at_call 18; refine (oMany w q base _ _ base2 _ _ _ HB9.out).mono ?_; rintro e w9 ⟨rfl, rfl⟩) | (go_at_call 20; refine (oFull w q base _ _ base2 _ _ _ HB9.out).mono ?_; rintro e w11 ⟨rfl, HB11⟩))
            go_roundw
            case rel => exact ⟨k + 1, pre, l2, al2, _, hk0, by go_num, by omega, rfl, by rw [hs2], HAL9, HG9, HB11⟩
            case measure => simp [intOf]; omega
      · obtain rfl : k = zs0.length := by omega
        have hk1 : ¬ (zs0.length : Int) < (zs0.length : Int) := by omega
        have HRA := hid (HB.out.ha.rdH rfl)
        have hnn : al.length - pre.length = l.length := by have := HLE.out; omega
        have hp0 : (0 : Int) ≤ (pre.length : Int) := by omega
        have hpl : (pre.length : Int) ≤ (al.length : Int) := by have := HLE.out; omega
        have hpl2 : pre.length ≤ al.length := by omega
        have hcai : (al.length : Int) ≤ (ca : Int) := by omega
        by_cases hcc : ca = pre.length
        · have hl0 : l = [] := List.eq_nil_of_length_eq_zero (by omega)
          have HR0 : Hid (RdH wr Aa l) := hid (fun h => by rw [hl0] at h; cases h)
          have hcci : (ca : Int) = (pre.length : Int) := by omega
          subst hl0
          go_upto_region 28 with (fail)
          refine wp_region_step (.rd 0 (.rd 1 (.rd 2 (.rd 4 (.rd 5 (.rd 6 (.ac 3 (.ac 7 (.rd 8 (.rd 9 .done)))))))))) (by kernel_rfl) (by kernel_rfl) (fun _ _ d _ _ h => by cases d <;> exact h) (by simp only [Ord.map, nthOp, List.append]; rfl) ?_
          intro d0
          have HB2 := hid (HB.out.ext (Ext.grow (Ext.refl _) d0))
          have HRS := hid (HR0.out.ext (Ext.grow (Ext.refl _) d0))
          clear HB HR0
          generalize Go.Proofs.Ytlbemgkdpagoiaa.grow wr d0 = W2 at HB2 HRS ⊢
          repeat' (first | (refine step_read (by rfl) (fun K hK => ?_); go_big_quiet_op; refine hK _ ?_; clear hK K) | (refine step_act (by rfl) (fun K hK => ?_); go_wp2_with (first | ((go_at_call 22; refine (oAll w q base _ _ base2 _ _ _ HB2.out HG.out (by omega)).mono ?_; rintro e w2 ⟨A2, c2, rfl, HR2, HX2⟩); have hx2 := HX2.out) | (go_at_call 11; refine (hsame_ A2 Aa 0 c2 _ [] _ rfl HR2.out (HRS.out.ext hx2) (by omega)).mono ?_; rintro e w3 ⟨rfl, hx3⟩)); refine ⟨_, (by repeat (first | (with_reducible exact Ext.refl _) | (with_reducible refine Ext.undrew ?_) | (with_reducible refine Ext.grow ?_ _) | (with_reducible refine Ext.drew ?_) | (with_reducible refine Ext.drewN ?_ _) | (with_reducible refine Ext.alloc ?_ _) | (with_reducible assumption) | ((with_reducible refine Ext.setCell ?_ ?_ _); rotate_left; (first | exact Nat.le_refl _ | ((try dsimp only); (try simp only [World.size_alloc, grow_size, World.size_setCell]); omega))))), Ext.refl _, ?_⟩))
          refine step_nil ?_
          go_wp2
          go_ret
          exact ⟨rfl, (HB2.out.ex.trans hx2).trans hx3⟩
        · obtain _ | ⟨g, o, sp⟩ := Aa
          · have := hcn rfl
            omega
          · obtain rfl : sp = none := by
              rcases HB.out.ha.2 with ⟨h, _⟩ | ⟨g', o', c', cur, h, _⟩
              · cases h
              · cases h; rfl
            have hcci : ¬ (ca : Int) = (pre.length : Int) := by omega
            have HR0 : Hid (RdH wr (some ⟨g, o + pre.length * 3, none⟩) l) := hid (by have := HRA.out.sub pre.length; rwa [show al.drop pre.length = l by rw [HAL.out, List.drop_left]] at this)
            go_upto_region 28 with (fail)
            refine wp_region_step (.rd 0 (.rd 1 (.rd 2 (.rd 4 (.rd 5 (.rd 6 (.ac 3 (.ac 7 (.rd 8 (.rd 9 .done)))))))))) (by kernel_rfl) (by kernel_rfl) (fun _ _ d _ _ h => by cases d <;> exact h) (by simp only [Ord.map, nthOp, List.append]; rfl) ?_
            intro d0
            have HB2 := hid (HB.out.ext (Ext.grow (Ext.refl _) d0))
            have HRS := hid (HR0.out.ext (Ext.grow (Ext.refl _) d0))
            clear HB HR0
            generalize Go.Proofs.Ytlbemgkdpagoiaa.grow wr d0 = W2 at HB2 HRS ⊢
            repeat' (first | (refine step_read (by rfl) (fun K hK => ?_); go_big_quiet_op; refine hK _ ?_; clear hK K) | (refine step_act (by rfl) (fun K hK => ?_); go_wp2_with (first | ((go_at_call 22; refine (oAll w q base _ _ base2 _ _ _ HB2.out HG.out (by omega)).mono ?_; rintro e w2 ⟨A2, c2, rfl, HR2, HX2⟩); have hx2 := HX2.out) | (go_at_call 11; refine (hsame_ A2 (some ⟨g, o + pre.length * 3, none⟩) l.length c2 _ l _ rfl HR2.out (HRS.out.ext hx2) (by omega)).mono ?_; rintro e w3 ⟨rfl, hx3⟩)); refine ⟨_, (by repeat (first | (with_reducible exact Ext.refl _) | (with_reducible refine Ext.undrew ?_) | (with_reducible refine Ext.grow ?_ _) | (with_reducible refine Ext.drew ?_) | (with_reducible refine Ext.drewN ?_ _) | (with_reducible refine Ext.alloc ?_ _) | (with_reducible assumption) | ((with_reducible refine Ext.setCell ?_ ?_ _); rotate_left; (first | exact Nat.le_refl _ | ((try dsimp only); (try simp only [World.size_alloc, grow_size, World.size_setCell]); omega))))), Ext.refl _, ?_⟩))
            refine step_nil ?_
            go_wp2
            go_ret
            exact ⟨rfl, (HB2.out.ex.trans hx2).trans hx3⟩
  · have hli : (300 : Int) < (zs0.length : Int) := by omega
    clear hs0 wz0
    go_enter Try.func4, Try.ntmps4
    go_wp2_with (first | (go_at_call 8; refine Calls.mono (head_ _) ?_; rintro e wh ⟨rfl, hxh⟩) | (go_at_call 9; refine (qnew_ 100 _ (by decide) (by decide)).mono ?_; rintro e w1 ⟨q, rfl, hwq, hxn, hq1⟩))
    go_ret
    exact ⟨rfl, hxh.trans hxn⟩
end quarOrder

end Go.Proofs.Ytlbemgkdpagoiaa
