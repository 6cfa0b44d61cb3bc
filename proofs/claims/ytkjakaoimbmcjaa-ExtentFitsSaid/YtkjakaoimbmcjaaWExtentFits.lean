/- The walk of ExtentFits. -/
import Derived.Test.YtkjakaoimbmcjaaExtT
namespace Go.Proofs.Ytkjakaoimbmcjaa
set_option linter.unusedSimpArgs false
set_option linter.unusedVariables false
open Go.RowKit

open Go.Deep Go.RowKit
namespace extentFits
set_option maxRecDepth 100000 in
set_option maxHeartbeats 8000000 in
theorem walk (a0 : Int) (A1 : Option Addr) (cap1 : Nat) (zs1 : List EOp) (a2 : Int) (w : World) (w0 : (Lit.int .u8 a0).wf = true) (wl1 : zs1.length ≤ maxLen) (hs1 : SlAtN w A1 3 (zs1.map EOp.cells)) (wz1 : ∀ z ∈ zs1, z.good) (w2 : (Lit.int .u8 a2).wf = true) :
    Calls Try.prog 6 #[.int .u8 a0, .slice A1 zs1.length cap1, .int .u8 a2] w fun e w' => e = .returned (.bool true) ∧ Ext w w' := by
  have ha0' : 0 ≤ a0 ∧ a0 ≤ 255 := by simpa [Lit.wf, IntKind.min, IntKind.max, IntKind.signed, IntKind.bits] using w0
  have ha2' : 0 ≤ a2 ∧ a2 ≤ 255 := by simpa [Lit.wf, IntKind.min, IntKind.max, IntKind.signed, IntKind.bits] using w2
  obtain ⟨ha0, ha0h⟩ := ha0'
  clear w0 w2
  unfold maxLen at wl1
  have HSL := hid hs1
  clear hs1 wz1
  by_cases hlen : zs1.length ≤ 200
  · have hli : ¬ (200 : Int) < (zs1.length : Int) := by omega
    go_enter Try.func6, Try.ntmps6
    go_upto_region 2 with (go_at_call 8; refine Calls.mono (head_ _) ?_; rintro e wh ⟨rfl, hxh⟩)
    go_upto_region 3 with (go_at_call 9; refine (xNew a0 _ ha0 (by omega)).mono ?_; rintro e w1 ⟨q, v1, l1, rfl, HG1⟩)
    have HG0 : Hid (EG w w1 q wh.heap.size 0 (16 * a0) v1 l1) := hid ⟨⟨HG1.out.1.1, hxh.trans HG1.out.1.2.1, hxh.size⟩, HG1.out.2⟩
    clear HG1 hxh
    generalize wh.heap.size = base at HG0
    obtain ⟨to, hto⟩ : ∃ x, 16 * a0 = x := ⟨_, rfl⟩
    rw [hto] at HG0
    have hto8 : to ≤ 4080 := by omega
    clear hto
    go_wp2
    go_loopw [9] (fun i wr => ∃ (k : Nat) (v : Value) (l : List Pr), k ≤ zs1.length ∧ i = .int .i64 k ∧ Hid (EG w wr q base 0 to v l)) (fun i _ => zs1.length - (intOf i).toNat)
    case atStart => exact ⟨0, _, _, Nat.zero_le _, rfl, HG0⟩
    case round =>
      clear HG0
      obtain ⟨k, v, l, hk, rfl, HG⟩ := hrel
      by_cases hlt : k < zs1.length
      · obtain ⟨z, hz⟩ : ∃ z, zs1[k] = z := ⟨_, rfl⟩
        obtain ⟨b0, o, rfl, hb0, hop⟩ := EOp.facts HSL.out hlt z hz
        have HOP := hid (rg_ext hop hb0 HG.out.1.2.1)
        have hb1 : b0 < wr.heap.size := Nat.lt_of_lt_of_le hb0 HG.out.1.2.1.size
        have hcw : wr.cell? ⟨b0, o + k * 3, none⟩ = some (.int .i64 z.what) := HOP.out 0 _ rfl
        have hcn : wr.cell? ⟨b0, o + k * 3 + 2, none⟩ = some (.int .i64 z.n) := HOP.out 2 _ rfl
        clear hop hz
        have hk1 : (k : Int) < (zs1.length : Int) := by omega
        have hk0 : k + 1 ≤ zs1.length := by omega
        have hk3 : (0 : Int) ≤ (k : Int) := by omega
        by_cases hw : z.what < 3
        · go_wp2_with (go_at_call 11; refine (gTake w q base 0 to _ _ _ HG.out z.n).mono ?_; rintro e w2 ⟨x2, b2, v2, l2, rfl, HG2, _, _⟩)
          go_roundw
          case rel => exact ⟨k + 1, _, _, hk0, by go_num, HG2⟩
          case measure => simp [intOf]; omega
        · go_upto_region 10 with (fail)
          obtain ⟨kk, hk1', hk2', hk3'⟩ := exists_k l z.at_
          refine wp_region_only (S := fun i => w.heap.size ≤ i) (.rd 0 (.rd 1 (.rd 2 (.rd 3 (.rd 4 (.rd 5 (.rd 6 (.rd 7 (.rd 8 (.rd 9 (.rd 10 (.ac 11 .done)))))))))))) (by kernel_rfl) (by kernel_rfl) (fun _ _ d _ _ h => by cases d <;> exact h) (by simp only [Ord.map, nthOp, List.append]; rfl) ?_
          intro d0
          have hx0 : Ext wr (Go.Proofs.Ytkjakaoimbmcjaa.grow wr d0) := Ext.grow (Ext.refl _) d0
          have HG2 := hid (HG.out.ext hx0)
          have HO2 := hid (rg_ext HOP.out hb1 hx0)
          have hb2 := Nat.lt_of_lt_of_le hb1 hx0.size
          generalize Go.Proofs.Ytkjakaoimbmcjaa.grow wr d0 = W2 at HG2 HO2 hb2 ⊢
          clear HG hx0 HOP
          have hnb : ¬ w.heap.size ≤ b0 := Nat.not_le_of_lt hb0
          repeat' (first | (refine only_read (by rfl) (fun K hK => ?_); (refine quiet_index 22 _ _ rfl ⟨b0, o, none⟩ zs1.length cap1 k 3 rfl rfl hlt (by kernel_rfl) (fun w => by kernel_rfl) ?_; rw [Addr.add_lit]); refine hK _ ?_; clear hK K; simp only [Act.put, List.setIfInBounds_toArray, List.set_cons_zero, List.set_cons_succ]) | (refine only_read (by rfl) (fun K hK => ?_); refine quiet_runD 56 rfl (.pointer (some ⟨b0, o + k * 3 + 1, none⟩)) (fun w => by kernel_rfl) ?_; refine hK _ ?_; clear hK K; simp only [Act.put, List.setIfInBounds_toArray, List.set_cons_zero, List.set_cons_succ]) | (refine only_read (by rfl) (fun K hK => ?_); refine quiet_runD 61 rfl (.pointer (some ⟨b0, o + k * 3 + 2, none⟩)) (fun w => by kernel_rfl) ?_; refine hK _ ?_; clear hK K; simp only [Act.put, List.setIfInBounds_toArray, List.set_cons_zero, List.set_cons_succ]) | (refine only_read (by rfl) (fun K hK => ?_); refine quiet_load1 3 _ rfl b0 (o + k * 3 + 1) rfl (.int .i64 z.at_) _ (fun w' hw' => rg_only HO2.out hb2 hw' hnb 1 _ rfl) Try.underlying3 rfl ?_; refine hK _ ?_; clear hK K; simp only [Act.put, List.setIfInBounds_toArray, List.set_cons_zero, List.set_cons_succ]) | (refine only_read (by rfl) (fun K hK => ?_); refine quiet_load1 3 _ rfl b0 (o + k * 3 + 2) rfl (.int .i64 z.n) _ (fun w' hw' => rg_only HO2.out hb2 hw' hnb 2 _ rfl) Try.underlying3 rfl ?_; refine hK _ ?_; clear hK K; simp only [Act.put, List.setIfInBounds_toArray, List.set_cons_zero, List.set_cons_succ]) | (refine only_read (by rfl) (fun K hK => ?_); go_big_quiet_op; refine hK _ ?_; clear hK K))
          refine only_act (by rfl) (fun K hK => ?_)
          go_wp2_with (go_at_call 13; refine (gGive w q base 0 to _ _ _ HG2.out z.at_ z.n kk hk1' hk2' hk3').mono ?_; rintro e w3 ⟨b3, v3, l3, rfl, HG3, HO3, _⟩)
          refine ⟨_, Only.refl _ _, HG2.out.nw HO3.out, ?_⟩
          refine only_nil ?_
          clear HG2 HO2 HO3
          go_wp2
          go_roundw
          case rel => exact ⟨k + 1, _, _, hk0, by go_num, HG3⟩
          case measure => simp [intOf]; omega
      · obtain rfl : k = zs1.length := by omega
        have hk1 : ¬ (zs1.length : Int) < (zs1.length : Int) := by omega
        have hok := HG.out.2.1.okF HG.out.2.2.1 HG.out.2.2.2
        have hll := HG.out.2.1.len HG.out.2.2.1 HG.out.2.2.2
        have hll2 : l.length ≤ 3000 := by
          rcases good_len l 0 HG.out.2.1 with h | h
          · rw [h]; simp
          · omega
        go_upto_region 12 with (fail)
        obtain ⟨n, hn⟩ : ∃ n, 16 * (1 + a2 % 16) = n := ⟨_, rfl⟩
        have hg : g16 n = true := by rw [← hn]; exact g16_mul _
        have hn1 : 1 ≤ n := by omega
        have hn2 : n ≤ 256 := by omega
        rw [hn]
        clear hn
        go_upto_region 13 with (go_at_call 20; refine (xRuns w q base 0 to v l _ HG.out.1 (by omega)).mono ?_; rintro e w5 ⟨A5, c5, rfl, HR5, HE5, _, HF5⟩)
        have hA5 : ∀ b o, A5 = some ⟨b, o, none⟩ → ¬ tch q v b := fun b o e => by
          have h1 := HF5.out b o e
          rintro (h2 | h2)
          · have := HG.out.1.1.1; omega
          · have := (HG.out.1.1.2.2.2.1.lt b h2).2; omega
        go_upto_region 14 with (go_at_call 17; refine (xMost w q base 0 to v l _ HE5.out hok (by omega)).mono ?_; rintro e w6 ⟨rfl, HE6, HX6⟩)
        have HR6 := hid (HR5.out.ext HX6.out)
        clear HG HE5 HR5 HF5 HX6
        rcases Option.eq_none_or_eq_some (l.findIdx? (fits n)) with hf | ⟨kk, hf⟩
        · have hm : ¬ n ≤ mostP l := fun h => (most_fits hn1 l).1 h hf
          have hmiss : ∀ (j : Nat) (hj : j < l.length), fits n l[j] = false := fun j hj => List.findIdx?_eq_none_iff.1 hf _ (List.getElem_mem hj)
          have HM := hid hmiss
          go_upto_region 15 with (go_at_call 11; refine (xTakeNo w q base 0 to v l _ HE6.out hok hll n (.inr (.inr hf))).mono ?_; rintro e w7 ⟨rfl, HE7, HX7⟩)
          have HR8 := hid (HR6.out.ext HX7.out)
          clear HR6 HE6 HX7 hf hmiss
          go_wp2
          go_loopw [15] (fun i wr => ∃ j : Nat, j ≤ l.length ∧ i = .int .i64 j ∧ Ext w7 wr) (fun i _ => l.length - (intOf i).toNat)
          case atStart => exact ⟨0, Nat.zero_le _, rfl, Ext.refl _⟩
          case round =>
            obtain ⟨j, hj, rfl, hx8⟩ := hrel
            by_cases hjl : j < l.length
            · obtain ⟨b, o, rfl, hb, c0, c1⟩ := (HR8.out.ext hx8).two hjl
              have hj1 : (j : Int) < (l.length : Int) := by omega
              have hj0 : (0 : Int) ≤ (j : Int) := by omega
              have hbd := hok _ (List.getElem_mem hjl)
              have hle : (l[j]).len = (l[j]).hi - (l[j]).lo := rfl
              have hws : wrap64 ((l[j]).hi - (l[j]).lo) = (l[j]).hi - (l[j]).lo := wrapP (by omega) (by omega)
              have hlow : ¬ n ≤ (l[j]).len := of_decide_eq_false (HM.out j hjl)
              rw [hle] at hlow
              have hlow2 : (l[j]).hi - (l[j]).lo < n := by omega
              generalize (l[j]).lo = xl at c0 hws hlow hlow2
              generalize (l[j]).hi = xh at c1 hws hlow hlow2
              clear hbd hle
              go_upto_region 20 with (fail)
              refine wp_region_grow (by kernel_rfl) (by kernel_rfl) (by first | (simp only [List.append]; rfl) | rfl) ?_
              (repeat (go_big_quiet_step (fail)))
              refine wpQuiet_nil ?_
              intro wq hq
              obtain ⟨d, rfl⟩ := hq
              go_wp2
              go_roundw
              case rel => exact ⟨j + 1, by omega, by go_num, (by repeat (first | (with_reducible exact Ext.refl _) | (with_reducible refine Ext.undrew ?_) | (with_reducible refine Ext.grow ?_ _) | (with_reducible refine Ext.drew ?_) | (with_reducible refine Ext.drewN ?_ _) | (with_reducible refine Ext.alloc ?_ _) | (with_reducible assumption) | ((with_reducible refine Ext.setCell ?_ ?_ _); rotate_left; (first | exact Nat.le_refl _ | ((try dsimp only); (try simp only [World.size_alloc, grow_size, World.size_setCell]); omega)))))⟩
              case measure => simp [intOf]; omega
            · obtain rfl : j = l.length := by omega
              have hj1 : ¬ (l.length : Int) < (l.length : Int) := by omega
              go_wp2
              go_ret
              exact ⟨rfl, HE7.out.2.1.trans hx8⟩
        · obtain ⟨hkk, hfk, hfj⟩ := List.findIdx?_eq_some_iff_getElem.1 hf
          have hm : n ≤ mostP l := (most_fits hn1 l).2 (by rw [hf]; simp)
          have hm2 : decide (n ≤ mostP l) = true := decide_eq_true hm
          have HM := hid hfj
          have HFK := hid hfk
          go_upto_region 15 with (go_at_call 11; refine (xTake w q base 0 to v l _ HE6.out hok hll n hn1 hg kk hkk hf _ rfl _ rfl).mono ?_; rintro e w7 ⟨v7, rfl, HE7, HO7⟩)
          have HR8 := hid (HR6.out.only HO7.out hA5)
          clear HR6 HE6 HO7 hf hfj hfk
          go_wp2
          go_loopw [15] (fun i wr => ∃ j : Nat, j ≤ kk ∧ i = .int .i64 j ∧ Ext w7 wr) (fun i _ => kk + 1 - (intOf i).toNat)
          case atStart => exact ⟨0, Nat.zero_le _, rfl, Ext.refl _⟩
          case round =>
            obtain ⟨j, hj, rfl, hx8⟩ := hrel
            have hjl : j < l.length := by omega
            by_cases hjk : j < kk
            · obtain ⟨b, o, rfl, hb, c0, c1⟩ := (HR8.out.ext hx8).two hjl
              have hj1 : (j : Int) < (l.length : Int) := by omega
              have hj0 : (0 : Int) ≤ (j : Int) := by omega
              have hbd := hok _ (List.getElem_mem hjl)
              have hle : (l[j]).len = (l[j]).hi - (l[j]).lo := rfl
              have hws : wrap64 ((l[j]).hi - (l[j]).lo) = (l[j]).hi - (l[j]).lo := wrapP (by omega) (by omega)
              have hlow : ¬ n ≤ (l[j]).len := of_decide_eq_false (show fits n l[j] = false from by simpa using HM.out j hjk)
              rw [hle] at hlow
              have hlow2 : (l[j]).hi - (l[j]).lo < n := by omega
              generalize (l[j]).lo = xl at c0 hws hlow hlow2
              generalize (l[j]).hi = xh at c1 hws hlow hlow2
              clear hbd hle
              go_upto_region 20 with (fail)
              refine wp_region_grow (by kernel_rfl) (by kernel_rfl) (by first | (simp only [List.append]; rfl) | rfl) ?_
              (repeat (go_big_quiet_step (fail)))
              refine wpQuiet_nil ?_
              intro wq hq
              obtain ⟨d, rfl⟩ := hq
              go_wp2
              go_roundw
              case rel => exact ⟨j + 1, by omega, by go_num, (by repeat (first | (with_reducible exact Ext.refl _) | (with_reducible refine Ext.undrew ?_) | (with_reducible refine Ext.grow ?_ _) | (with_reducible refine Ext.drew ?_) | (with_reducible refine Ext.drewN ?_ _) | (with_reducible refine Ext.alloc ?_ _) | (with_reducible assumption) | ((with_reducible refine Ext.setCell ?_ ?_ _); rotate_left; (first | exact Nat.le_refl _ | ((try dsimp only); (try simp only [World.size_alloc, grow_size, World.size_setCell]); omega)))))⟩
              case measure => simp [intOf]; omega
            · obtain rfl : j = kk := by omega
              obtain ⟨b, o, rfl, hb, c0, c1⟩ := (HR8.out.ext hx8).two hjl
              have hj1 : (j : Int) < (l.length : Int) := by omega
              have hj0 : (0 : Int) ≤ (j : Int) := by omega
              have hbd := hok _ (List.getElem_mem hjl)
              have hle : (l[j]).len = (l[j]).hi - (l[j]).lo := rfl
              have hws : wrap64 ((l[j]).hi - (l[j]).lo) = (l[j]).hi - (l[j]).lo := wrapP (by omega) (by omega)
              have hhit : n ≤ (l[j]).hi - (l[j]).lo := of_decide_eq_true HFK.out
              generalize (l[j]).hi = xh at c1 hws hhit
              generalize (l[j]).lo = xl at c0 hws hhit ⊢
              clear hbd hle
              go_upto_region 20 with (fail)
              refine wp_region_grow (by kernel_rfl) (by kernel_rfl) (by first | (simp only [List.append]; rfl) | rfl) ?_
              (repeat (go_big_quiet_step (fail)))
              refine wpQuiet_nil ?_
              intro wq hq
              obtain ⟨d, rfl⟩ := hq
              go_wp2
              go_ret
              exact ⟨rfl, HE7.out.2.1.trans (by repeat (first | (with_reducible exact Ext.refl _) | (with_reducible refine Ext.undrew ?_) | (with_reducible refine Ext.grow ?_ _) | (with_reducible refine Ext.drew ?_) | (with_reducible refine Ext.drewN ?_ _) | (with_reducible refine Ext.alloc ?_ _) | (with_reducible assumption) | ((with_reducible refine Ext.setCell ?_ ?_ _); rotate_left; (first | exact Nat.le_refl _ | ((try dsimp only); (try simp only [World.size_alloc, grow_size, World.size_setCell]); omega)))))⟩
  · have hli : (200 : Int) < (zs1.length : Int) := by omega
    go_enter Try.func6, Try.ntmps6
    go_wp2_with (first | (go_at_call 8; refine Calls.mono (head_ _) ?_; rintro e wh ⟨rfl, hxh⟩) | (go_at_call 9; refine (xNew a0 _ ha0 (by omega)).mono ?_; rintro e w1 ⟨q, v1, l1, rfl, HG1⟩))
    go_ret
    exact ⟨rfl, hxh.trans HG1.out.1.2.1⟩
end extentFits

end Go.Proofs.Ytkjakaoimbmcjaa
