/- The walk of TagmemBack. -/
import Derived.Test.YtgpeabbbeidhpaaTagR
namespace Go.Proofs.Ytgpeabbbeidhpaa
set_option linter.unusedSimpArgs false
set_option linter.unusedVariables false
open Go.RowKit

open Go.Deep Go.RowKit
namespace tagmemBack
set_option maxRecDepth 100000 in
set_option maxHeartbeats 8000000 in
theorem walk (A0 : Option Addr) (cap0 : Nat) (zs0 : List TOp) (a1 : Int) (A2 : Option Addr) (cap2 : Nat) (bl2 : List Int) (t3 : Bool) (b3 tp3 at3 pm3 ty3 : Int) (w : World) (wl0 : zs0.length ≤ maxLen) (hs0 : SlAtN w A0 10 (zs0.map TOp.cells)) (wz0 : ∀ z ∈ zs0, z.good w) (w1 : (Lit.int .u16 a1).wf = true) (wl2 : bl2.length ≤ cap2 ∧ cap2 ≤ maxLen) (hs2 : RdB w A2 bl2) (wz2 : byteL bl2) (wn2 : A2 = none → cap2 = 0) (wb3 : (Lit.int .i64 b3).wf = true) (wtp3 : (Lit.int .i64 tp3).wf = true) (wat3 : (Lit.int .i64 at3).wf = true) (wpm3 : (Lit.int .i64 pm3).wf = true) (wty3 : (Lit.int .i64 ty3).wf = true) :
    Calls Try.prog 5 #[.slice A0 zs0.length cap0, .int .u16 a1, .slice A2 bl2.length cap2, .agg #[.bool t3, .int .i64 b3, .int .i64 tp3, .int .i64 at3, .int .i64 pm3, .int .i64 ty3]] w fun e w' => e = .returned (.bool true) ∧ Ext w w' := by
  have ha' : 0 ≤ a1 ∧ a1 ≤ 65535 := by simpa [Lit.wf, IntKind.min, IntKind.max, IntKind.signed, IntKind.bits] using w1
  obtain ⟨ha0, ha1⟩ := ha'
  clear w1
  have HSL := hid hs0
  have HWZ := hid wz0
  have HRB := hid hs2
  have HBL := hid wz2
  obtain ⟨hcap, hcm⟩ := wl2
  unfold maxLen at hcm
  obtain ⟨m, hm⟩ : ∃ m, bl2.length = m := ⟨_, rfl⟩
  have HML := hid hm
  rw [hm] at hcap ⊢
  clear hs0 wz0 hs2 wz2 hm
  go_enter Try.func5, Try.ntmps5
  go_upto_region 1 with (fail)
  refine wp_gen (fun W => Hid (Ext w W) ∧ Hid (CapB W w.heap.size [.bool t3, .int .i64 b3, .int .i64 tp3, .int .i64 at3, .int .i64 pm3, .int .i64 ty3])) ⟨hid (by repeat (first | (with_reducible exact Ext.refl _) | (with_reducible refine Ext.undrew ?_) | (with_reducible refine Ext.grow ?_ _) | (with_reducible refine Ext.drew ?_) | (with_reducible refine Ext.drewN ?_ _) | (with_reducible refine Ext.alloc ?_ _) | (with_reducible assumption) | ((with_reducible refine Ext.setCell ?_ ?_ _); rotate_left; (first | exact Nat.le_refl _ | ((try dsimp only); (try simp only [World.size_alloc, grow_size, World.size_setCell]); omega))))), hid (CapB.new w _ _)⟩ ?_
  rintro W0 ⟨HX0, HC0⟩
  have hx0 := HX0.out
  have HCB := hid (Nat.lt_of_lt_of_le HC0.out.1 (Nat.le_refl _))
  generalize w.heap.size = cb at HC0 HCB ⊢
  clear HX0
  go_upto_region 2 with (go_at_call 8; refine Calls.mono (head_ _) ?_; rintro e wh ⟨rfl, hxh⟩)
  go_upto_region 3 with (go_at_call 10; refine (hNew 4 4 (by decide) _ (by decide) (by decide)).mono ?_; rintro e w1 ⟨q, rfl, g, HM1⟩)
  have HMM : Hid (HM W0 w1 q g 4 (fun _ => 0) (fun _ => false) (fun _ => false)) := hid ⟨HM1.out.1, hxh.trans HM1.out.2.1, Nat.le_trans hxh.size HM1.out.2.2.1, Nat.le_trans hxh.size HM1.out.2.2.2⟩
  clear HM1 hxh
  by_cases hlen : m ≤ 1000
  · have hli : ¬ (1000 : Int) < (m : Int) := by omega
    go_wp2_with (go_at_call 9; refine (great_ A0 cap0 zs0 _ wl0 (HSL.out.ext (hx0.trans HMM.out.2.1))).mono ?_; rintro e w3 ⟨b, rfl, hx3, hgr⟩; rcases b with _ | _)
    rotate_left
    · go_ret
      exact ⟨rfl, hx0.trans (HMM.out.2.1.trans hx3)⟩
    · skip
      have HT3 := hid (HMM.out.ext hx3)
      have hlen0 : zs0.length ≤ 200 := by first | exact hgr.out rfl | exact hgr.out trivial | exact hgr.out
      clear HMM hx3 hgr
      go_loopw [11] (fun i wr => ∃ (k : Nat) (B : Nat → Int) (T D : Nat → Bool), k ≤ zs0.length ∧ i = .int .i64 k ∧ Hid (HM W0 wr q g 4 B T D)) (fun i _ => zs0.length - (intOf i).toNat)
      case atStart => exact ⟨0, _, _, _, Nat.zero_le _, rfl, HT3⟩
      case round =>
        clear HT3
        obtain ⟨k, B, T, D, hk, rfl, HTg⟩ := hrel
        have hk3 : (0 : Int) ≤ (k : Int) := by omega
        by_cases hlt : k < zs0.length
        · obtain ⟨z, hz⟩ : ∃ z, zs0[k] = z := ⟨_, rfl⟩
          have hzg : Hid (z.good w) := hid (by rw [← hz]; exact HWZ.out _ (List.getElem_mem hlt))
          obtain ⟨b0, o, rfl, hb0', hop⟩ := TOp.facts HSL.out hlt z hz
          have HOP := hid (rg_ext hop hb0' (hx0.trans HTg.out.2.1))
          have hb0 : b0 < W0.heap.size := Nat.lt_of_lt_of_le hb0' hx0.size
          have hzA : Hid (∀ t, W0.heap.size ≤ t → 0 < z.bl.length → ∀ b o, z.A = some ⟨b, o, none⟩ → ¬ b = t) := hid (fun t ht h0 b o e => by
            obtain ⟨b', o', e', hl', _⟩ := hzg.out.2.2.1.2.2.1 h0
            rw [e] at e'
            cases e'
            have := hx0.size
            omega)
          have hk1 : (k : Int) < (zs0.length : Int) := by omega
          clear hop hz hb0'
          have c0 : World.cell? wr ⟨b0, o + k * 10, none⟩ = some (.int .i64 z.what) := HOP.out 0 _ rfl
          by_cases hwh : z.what < 2
          · by_cases hs : spanP 4 z.at_ z.bl.length
            · go_upto_region 9 with (fail)
              have c1 : World.cell? wr ⟨b0, o + k * 10 + 1, none⟩ = some (.int .i64 z.at_) := HOP.out 1 _ rfl
              have c2 : World.cell? wr ⟨b0, o + k * 10 + 2, none⟩ = some (.slice z.A z.bl.length z.ca) := HOP.out 2 _ rfl
              have hbb : ¬ b0 = g := by have := HTg.out.2.2.1; omega
              have hbl : b0 < wr.heap.size := Nat.lt_of_lt_of_le hb0 HTg.out.2.1.size
              refine wp_region_turn (q := g) (.rd 0 (.rd 1 (.rd 2 (.rd 3 (.rd 4 (.rd 5 (.rd 6 (.rd 7 (.rd 8 (.rd 9 (.rd 10 (.ac 11 .done)))))))))))) (by kernel_rfl) (by kernel_rfl) (fun _ _ d _ _ h => by cases d <;> exact h) (by simp only [Ord.map, nthOp, List.append]; rfl) ?_
              intro d0
              have hxg : Ext wr (Go.Proofs.Ytgpeabbbeidhpaa.grow wr d0) := Ext.grow (Ext.refl _) d0
              have HTh := hid (HTg.out.ext hxg)
              repeat (refine turn_read (by rfl) (fun K hK => ?_); go_big_quiet_op; refine hK _ ?_; clear hK K)
              refine turn_act (by rfl) (fun K hK => ?_)
              go_wp2_with (go_at_call 22; refine (hStYes W0 _ q g 4 B T D HTh.out z.at_ z.A z.bl.length z.ca z.bl rfl (hzg.out.2.2.1.2.2.1.ext (hx0.trans HTh.out.2.1)) hzg.out.2.2.1.2.2.2 hzg.out.2.2.1.1 (hzA.out g HTh.out.2.2.1) hs).mono ?_; rintro e W5 ⟨a', ha', rfl, HMx, HOx⟩)
              refine ⟨_, Only.refl _ _, HOx.out, ?_⟩
              refine turn_nil ?_
              clear HTh hxg hbb hbl c1 c2 HOP HTg
              go_wp2
              go_roundw
              case rel => exact ⟨k + 1, _, _, _, by omega, by go_num, HMx⟩
              case measure => simp [intOf]; omega
            · go_upto_region 9 with (fail)
              have c1 : World.cell? wr ⟨b0, o + k * 10 + 1, none⟩ = some (.int .i64 z.at_) := HOP.out 1 _ rfl
              have c2 : World.cell? wr ⟨b0, o + k * 10 + 2, none⟩ = some (.slice z.A z.bl.length z.ca) := HOP.out 2 _ rfl
              have hbb : ¬ b0 = g := by have := HTg.out.2.2.1; omega
              have hbl : b0 < wr.heap.size := Nat.lt_of_lt_of_le hb0 HTg.out.2.1.size
              refine wp_region_turn (q := g) (.rd 0 (.rd 1 (.rd 2 (.rd 3 (.rd 4 (.rd 5 (.rd 6 (.rd 7 (.rd 8 (.rd 9 (.rd 10 (.ac 11 .done)))))))))))) (by kernel_rfl) (by kernel_rfl) (fun _ _ d _ _ h => by cases d <;> exact h) (by simp only [Ord.map, nthOp, List.append]; rfl) ?_
              intro d0
              have hxg : Ext wr (Go.Proofs.Ytgpeabbbeidhpaa.grow wr d0) := Ext.grow (Ext.refl _) d0
              have HTh := hid (HTg.out.ext hxg)
              repeat (refine turn_read (by rfl) (fun K hK => ?_); go_big_quiet_op; refine hK _ ?_; clear hK K)
              refine turn_act (by rfl) (fun K hK => ?_)
              go_wp2_with (go_at_call 22; refine (hStNo W0 _ q g 4 B T D HTh.out z.at_ z.A z.bl.length z.ca hs).mono ?_; rintro e W5 ⟨rfl, HMx, HOx⟩)
              refine ⟨_, Only.refl _ _, Only.ofExt HOx.out, ?_⟩
              refine turn_nil ?_
              clear HTh hxg hbb hbl c1 c2 HOP HTg
              go_wp2
              go_roundw
              case rel => exact ⟨k + 1, _, _, _, by omega, by go_num, HMx⟩
              case measure => simp [intOf]; omega
          · skip
            go_upto_region 10 with (fail)
            have c1 : World.cell? wr ⟨b0, o + k * 10 + 1, none⟩ = some (.int .i64 z.at_) := HOP.out 1 _ rfl
            have c3 : World.cell? wr ⟨b0, o + k * 10 + 3, none⟩ = some (.bool z.c.tag) := HOP.out 3 _ rfl
            have c4 : World.cell? wr ⟨b0, o + k * 10 + 4, none⟩ = some (.int .i64 z.c.base) := HOP.out 4 _ rfl
            have c5 : World.cell? wr ⟨b0, o + k * 10 + 5, none⟩ = some (.int .i64 z.c.top) := HOP.out 5 _ rfl
            have c6 : World.cell? wr ⟨b0, o + k * 10 + 6, none⟩ = some (.int .i64 z.c.at_) := HOP.out 6 _ rfl
            have c7 : World.cell? wr ⟨b0, o + k * 10 + 7, none⟩ = some (.int .i64 z.c.perms) := HOP.out 7 _ rfl
            have c8 : World.cell? wr ⟨b0, o + k * 10 + 8, none⟩ = some (.int .i64 z.c.type) := HOP.out 8 _ rfl
            have hbb : ¬ b0 = g := by have := HTg.out.2.2.1; omega
            have hbl : b0 < wr.heap.size := Nat.lt_of_lt_of_le hb0 HTg.out.2.1.size
            refine wp_region_turn (q := g) (.rd 0 (.rd 1 (.rd 2 (.rd 3 (.rd 4 (.rd 5 (.rd 6 (.rd 7 (.rd 8 (.rd 9 (.rd 10 (.ac 11 .done)))))))))))) (by kernel_rfl) (by kernel_rfl) (fun _ _ d _ _ h => by cases d <;> exact h) (by simp only [Ord.map, nthOp, List.append]; rfl) ?_
            intro d0
            have hxg : Ext wr (Go.Proofs.Ytgpeabbbeidhpaa.grow wr d0) := Ext.grow (Ext.refl _) d0
            have HTh := hid (HTg.out.ext hxg)
            repeat (refine turn_read (by rfl) (fun K hK => ?_); go_big_quiet_op; refine hK _ ?_; clear hK K)
            refine turn_act (by rfl) (fun K hK => ?_)
            go_wp2_with (go_at_call 12; refine (hScAny W0 _ q g 4 B T D HTh.out z.at_ z.c.tag z.c.base z.c.top z.c.at_ z.c.perms z.c.type).mono ?_; rintro e W5 ⟨bb, rfl, HMx, HOx⟩)
            refine ⟨_, Only.refl _ _, HOx.out, ?_⟩
            refine turn_nil ?_
            clear HTh hxg hbb hbl c1 c3 c4 c5 c6 c7 c8 HOP HTg
            go_wp2
            go_roundw
            case rel => exact ⟨k + 1, _, _, _, by omega, by go_num, HMx⟩
            case measure => simp [intOf]; omega
        · obtain rfl : k = zs0.length := by omega
          have hk1 : ¬ (zs0.length : Int) < (zs0.length : Int) := by omega
          obtain ⟨a, hale, hta⟩ : ∃ a : Nat, a ≤ 1024 ∧ a1.tmod 1025 = (a : Int) := ⟨(a1 % 1025).toNat, by omega, by rw [Int.tmod_eq_emod_of_nonneg ha0]; omega⟩
          have hAg : ∀ t, W0.heap.size ≤ t → 0 < m → ∀ b o, A2 = some ⟨b, o, none⟩ → ¬ b = t := fun t ht h0 b o e => by
            obtain ⟨b', o', e', hl', _⟩ := HRB.out (by rw [HML.out]; exact h0)
            rw [e] at e'
            cases e'
            have := hx0.size
            omega
          have HAG := hid hAg
          clear hAg
          go_upto_region 12 with (go_at_call 18; refine (hLoad W0 _ q g 4 B T D HTg.out 0 1024 0 1024 (by decide) (by decide) (by decide)).mono ?_; rintro e W3 ⟨lb3, rfl, HR3, HT3, HX3, HF3⟩)
          have hn3 : ¬ lb3 = g := by have := HF3.out.1; have := HTg.out.1.ltg; omega
          clear HTg HX3 HF3
          by_cases hfit : a + m ≤ 1024
          · skip
            have hfi : (a : Int) + (m : Int) ≤ 1024 := by omega
            have hfd : decide ((a : Int) + (m : Int) ≤ 1024) = true := decide_eq_true hfi
            go_upto_region 15 with (go_at_call 22; refine (hStYes W0 _ q g 4 B T D HT3.out (a : Int) A2 m cap2 bl2 HML.out (HRB.out.ext (hx0.trans HT3.out.2.1)) HBL.out hcap (HAG.out g HT3.out.2.2.1) ⟨by omega, by omega, by omega, by omega⟩).mono ?_; rintro e W4 ⟨a', ha', rfl, HT4, HO4⟩; obtain rfl : a = a' := (by omega); clear ha')
            have HR4 := hid (HR3.out.only HO4.out (fun b o e => by cases e; exact hn3))
            clear HT3 HR3 HO4
            have HNW := hid (OwnB.new W4 W4.heap.size [] 0 rfl (by decide) (Nat.le_refl _))
            go_upto_region 16 with (at_builtin; go_loud (refine app_own rfl _ _ rfl W4.heap.size _ [] rfl HNW.out (some ⟨lb3, 0, none⟩) 1024 1024 (bytesAt B 0 1024) rfl (bytesAt_length _ _ _) (HR4.out.ext (by repeat (first | (with_reducible exact Ext.refl _) | (with_reducible refine Ext.undrew ?_) | (with_reducible refine Ext.grow ?_ _) | (with_reducible refine Ext.drew ?_) | (with_reducible refine Ext.drewN ?_ _) | (with_reducible refine Ext.alloc ?_ _) | (with_reducible assumption) | ((with_reducible refine Ext.setCell ?_ ?_ _); rotate_left; (first | exact Nat.le_refl _ | ((try dsimp only); (try simp only [World.size_alloc, grow_size, World.size_setCell]); omega)))))) (by intro h; cases h) (by simp) (by simp) ?_); intro v' W5 hown hgr)
            rw [List.nil_append] at hown
            obtain ⟨hb, hc, rfl, hc1, hc2, hbl, HD0⟩ := hown.ownD (by rw [bytesAt_length]; omega)
            have HD5 := hid HD0
            have hx5 : Ext W4 W5 := Ext.owned (by repeat (first | (with_reducible exact Ext.refl _) | (with_reducible refine Ext.undrew ?_) | (with_reducible refine Ext.grow ?_ _) | (with_reducible refine Ext.drew ?_) | (with_reducible refine Ext.drewN ?_ _) | (with_reducible refine Ext.alloc ?_ _) | (with_reducible assumption) | ((with_reducible refine Ext.setCell ?_ ?_ _); rotate_left; (first | exact Nat.le_refl _ | ((try dsimp only); (try simp only [World.size_alloc, grow_size, World.size_setCell]); omega))))) HNW.out hgr
            have HT5 := hid (HT4.out.ext hx5)
            have hnb : ¬ hb = g := by have := HT4.out.1.ltg; omega
            have hncb : ¬ cb = g := by have := HT4.out.2.2.1; have := HCB.out; omega
            have HQ4 : Hid (q < W4.heap.size ∧ W0.heap.size ≤ W4.heap.size) := hid ⟨HT4.out.1.ltq, HT4.out.2.1.size⟩
            rw [bytesAt_length] at hc1 ⊢
            clear HT4 HR4 hown hgr HNW hx5 HD0
            have hc3 : (1024 : Int) ≤ (hc : Int) := by omega
            have HBQ : Hid (¬ q = hb ∧ ¬ g = hb ∧ W0.heap.size ≤ hb) := hid ⟨by have := HT5.out.1.ltq; have := HQ4.out; omega, fun e => hnb e.symm, by have := HQ4.out; omega⟩
            clear HQ4
            go_wp2
            go_loopw [16] (fun iv wr => ∃ k : Nat, k ≤ m ∧ iv = .int .i64 k ∧ Hid (HM W0 wr q g 4 (putB B a bl2) (clrT T a bl2.length) D) ∧ Hid (OwnD wr hb (bytesAt (putB B a (bl2.take k)) 0 1024))) (fun iv _ => m - (intOf iv).toNat)
            case atStart => exact ⟨0, by omega, rfl, HT5, by rw [List.take_zero, putB_nil]; exact HD5⟩
            case round =>
              clear HT5 HD5
              obtain ⟨k, hk, rfl, HT6, HD6⟩ := hrel
              have hk3 : (0 : Int) ≤ (k : Int) := by omega
              by_cases hlt : k < m
              · have hlt' : k < bl2.length := by rw [HML.out]; exact hlt
                have hk1 : (k : Int) < (m : Int) := by omega
                obtain ⟨x, hxk⟩ : ∃ x, bl2[k] = x := ⟨_, rfl⟩
                obtain ⟨bb, ob, hAe, hbb, hcc⟩ := (HRB.out.ext (hx0.trans HT6.out.2.1)) (by omega)
                have hck := hcc k hlt'
                rw [hxk] at hck
                have hst := putB_step B a k bl2 hlt' 1024 (by rw [HML.out]; omega)
                rw [hxk] at hst
                have HST := hid hst
                have hl6 : (bytesAt (putB B a (bl2.take k)) 0 1024).length = 1024 := bytesAt_length _ _ _
                have HDn := hid (HD6.out.set (a + k) (by rw [hl6]; omega) x)
                rw [HST.out] at HDn
                have hcw := HD6.out.at_ (a + k) (by rw [hl6]; omega)
                obtain ⟨y, hy⟩ : ∃ y, (bytesAt (putB B a (bl2.take k)) 0 1024)[a + k]'(by rw [hl6]; omega) = y := ⟨_, rfl⟩
                rw [hy] at hcw
                have hfw := HD6.out.free (a + k)
                have HTn := hid (HT6.out.only (Only.setCell (S := (· = hb)) (Only.refl _ _) (b := hb) (o := a + k) (.inl rfl) (.int .u8 x)) HBQ.out.1 HBQ.out.2.1 (by rintro i rfl; exact HBQ.out.2.2))
                clear hst hl6 hy hxk hcc HST HT6 HD6 hlt'
                have hak : (a : Int) + (k : Int) < 1024 := by omega
                have hak0 : (0 : Int) ≤ (a : Int) + (k : Int) := by omega
                subst hAe
                go_wp2
                go_roundw
                case rel => exact ⟨k + 1, by omega, by go_num, HTn, HDn⟩
                case measure => simp [intOf]; omega
              · obtain rfl : m = k := by omega
                have hk1 : ¬ (m : Int) < (m : Int) := by omega
                obtain ⟨B', hB'⟩ : ∃ B', putB B a bl2 = B' := ⟨_, rfl⟩
                obtain ⟨T', hT'⟩ : ∃ T', clrT T a bl2.length = T' := ⟨_, rfl⟩
                rw [List.take_of_length_le (by rw [HML.out]; omega), hB'] at HD6
                rw [hB', hT'] at HT6
                clear hB' hT'
                have HT7 := HT6
                have HD7 := HD6
                clear HT6 HD6
                obtain ⟨lB, hlB0⟩ : ∃ l, bytesAt B' 0 1024 = l := ⟨_, rfl⟩
                have HLB := hid hlB0
                have HLL : Hid (lB.length = 1024) := hid (by rw [← hlB0]; exact bytesAt_length _ _ _)
                clear hlB0
                rw [HLB.out] at HD7
                go_upto_region 21 with (go_at_call 18; refine (hLoad W0 _ q g 4 B' T' D HT7.out 0 1024 0 1024 (by decide) (by decide) (by decide)).mono ?_; rintro e W8 ⟨lb8, rfl, HR8, HT8, HX8, HF8⟩)
                rw [HLB.out] at HR8
                have HD8 := hid (HD7.out.ext HX8.out)
                have HC8 := hid (HC0.out.ext HT8.out.2.1)
                have hn8 : ¬ lb8 = g := by have := HF8.out.1; have := HT7.out.1.ltg; omega
                clear HD7 HX8 HF8 HT7
                obtain ⟨jj, hjj, htj⟩ : ∃ jj : Nat, jj < 64 ∧ ((a : Int)).tmod 64 = (jj : Int) := ⟨a % 64, by omega, by rw [Int.tmod_eq_emod_of_nonneg (by omega)]; omega⟩
                have hjj0 : (0 : Int) ≤ (jj : Int) := by omega
                have hjj1 : (jj : Int) < 64 := by omega
                go_upto_region 22 with (fail)
                clear htj
                have hpl : placeP 4 (16 * (jj : Int)) := ⟨by omega, by omega, by omega⟩
                have c0 : World.cell? W8 ⟨cb, 0, none⟩ = some (.bool t3) := HC8.out.2 0 _ rfl
                have c1 : World.cell? W8 ⟨cb, 1, none⟩ = some (.int .i64 b3) := HC8.out.2 1 _ rfl
                have c2 : World.cell? W8 ⟨cb, 2, none⟩ = some (.int .i64 tp3) := HC8.out.2 2 _ rfl
                have c3 : World.cell? W8 ⟨cb, 3, none⟩ = some (.int .i64 at3) := HC8.out.2 3 _ rfl
                have c4 : World.cell? W8 ⟨cb, 4, none⟩ = some (.int .i64 pm3) := HC8.out.2 4 _ rfl
                have c5 : World.cell? W8 ⟨cb, 5, none⟩ = some (.int .i64 ty3) := HC8.out.2 5 _ rfl
                have cl := HC8.out.1
                obtain ⟨RT, hRT⟩ : ∃ r, rightC ⟨t3, b3, tp3, at3, pm3, ty3⟩ = r := ⟨_, rfl⟩
                have HRT := hid hRT
                rcases RT with _ | _
                · clear hRT
                  refine wp_region_turn (q := g) (.rd 0 (.rd 1 (.rd 2 (.rd 3 (.rd 4 (.rd 5 (.rd 6 (.rd 7 (.rd 8 (.rd 9 (.rd 10 (.rd 11 (.rd 12 (.rd 14 (.ac 13 (.ac 15 (.rd 16 (.rd 17 .done)))))))))))))))))) (by kernel_rfl) (by kernel_rfl) (fun _ _ d _ _ h => by cases d <;> exact h) (by simp only [Ord.map, nthOp, List.append]; rfl) ?_
                  intro d0
                  have hxg : Ext W8 (Go.Proofs.Ytgpeabbbeidhpaa.grow W8 d0) := Ext.grow (Ext.refl _) d0
                  have HTg8 := hid (HT8.out.ext hxg)
                  have HRx := hid (HR8.out.ext hxg)
                  have HDx := hid (HD8.out.rd.ext hxg)
                  repeat (refine turn_read (by rfl) (fun K hK => ?_); (first | (refine quiet_strT 29 9 5 _ (by rfl) Try.underlying29 Try.underlying5 Try.underlying9 (some ⟨lb8, 0, none⟩) _ 1024 lB (by rfl) HLL.out.symm (HRx.out) (fun b o e => by cases e; exact hn8) (fun h => by have := HLL.out; rw [h] at this; cases this) (hK _ ?_)) | (refine quiet_strT 29 9 5 _ (by rfl) Try.underlying29 Try.underlying5 Try.underlying9 (some ⟨hb, 0, none⟩) _ 1024 lB (by rfl) HLL.out.symm (HDx.out) (fun b o e => by cases e; exact hnb) (fun h => by have := HLL.out; rw [h] at this; cases this) (hK _ ?_)) | (go_big_quiet_op; refine hK _ ?_)); clear hK K; (try simp only [Act.put, List.setIfInBounds_toArray, List.set_cons_zero, List.set_cons_succ]))
                  refine turn_act (by rfl) (fun K hK => ?_)
                  go_wp2_with (go_at_call 12; refine (hScNo W0 _ q g 4 B' T' D HTg8.out (16 * (jj : Int)) t3 b3 tp3 at3 pm3 ty3 (fun c => by rw [HRT.out] at c; exact Bool.noConfusion c.2)).mono ?_; rintro e W9 ⟨rfl, HM9, HO9⟩)
                  refine ⟨W9, Only.ofExt (S := (· = g)) HO9.out, Only.refl _ _, ?_⟩
                  clear c0 c1 c2 c3 c4 c5 cl
                  have HC9 := hid ((HC8.out.ext hxg).only (Only.ofExt (S := (· = g)) HO9.out) hncb)
                  have c0 : World.cell? W9 ⟨cb, 0, none⟩ = some (.bool t3) := HC9.out.2 0 _ rfl
                  have c1 : World.cell? W9 ⟨cb, 1, none⟩ = some (.int .i64 b3) := HC9.out.2 1 _ rfl
                  have c2 : World.cell? W9 ⟨cb, 2, none⟩ = some (.int .i64 tp3) := HC9.out.2 2 _ rfl
                  have c3 : World.cell? W9 ⟨cb, 3, none⟩ = some (.int .i64 at3) := HC9.out.2 3 _ rfl
                  have c4 : World.cell? W9 ⟨cb, 4, none⟩ = some (.int .i64 pm3) := HC9.out.2 4 _ rfl
                  have c5 : World.cell? W9 ⟨cb, 5, none⟩ = some (.int .i64 ty3) := HC9.out.2 5 _ rfl
                  have cl := HC9.out.1
                  clear HC8 HTg8 HRx HDx hxg HR8 HD8 HT8 HO9
                  refine turn_act (by rfl) (fun K hK => ?_)
                  go_wp2_with (go_at_call 33; refine (rcapRight _ _ _ _ _ _ _).mono ?_; rw [HRT.out]; rintro e Wr ⟨rfl, hxr⟩)
                  refine ⟨_, Only.refl _ _, Only.ofExt hxr, ?_⟩
                  repeat (refine turn_read (by rfl) (fun K hK => ?_); go_big_quiet_op; refine hK _ ?_; clear hK K)
                  refine turn_nil ?_
                  clear c0 c1 c2 c3 c4 c5 cl
                  have HCr := hid (HC9.out.ext hxr)
                  have HMr := hid (HM9.out.ext hxr)
                  clear HM9 hxr HC9
                  go_upto_region 25 with (go_at_call 20; refine (hLcAny W0 _ q g 4 B' T' D HMr.out (16 * (jj : Int)) hpl).mono ?_; rintro e Wl ⟨c, rfl, HMl, HXl⟩)
                  refine wp_gen (fun W => Hid (HM W0 W q g 4 _ _ _) ∧ Hid (CapB W cb [.bool t3, .int .i64 b3, .int .i64 tp3, .int .i64 at3, .int .i64 pm3, .int .i64 ty3]) ∧ Hid (CapB W Wl.heap.size [.bool c.tag, .int .i64 c.base, .int .i64 c.top, .int .i64 c.at_, .int .i64 c.perms, .int .i64 c.type])) ⟨hid (HMl.out.ext (by repeat (first | (with_reducible exact Ext.refl _) | (with_reducible refine Ext.undrew ?_) | (with_reducible refine Ext.grow ?_ _) | (with_reducible refine Ext.drew ?_) | (with_reducible refine Ext.drewN ?_ _) | (with_reducible refine Ext.alloc ?_ _) | (with_reducible assumption) | ((with_reducible refine Ext.setCell ?_ ?_ _); rotate_left; (first | exact Nat.le_refl _ | ((try dsimp only); (try simp only [World.size_alloc, grow_size, World.size_setCell]); omega)))))), hid ((HCr.out.ext HXl.out).ext (by repeat (first | (with_reducible exact Ext.refl _) | (with_reducible refine Ext.undrew ?_) | (with_reducible refine Ext.grow ?_ _) | (with_reducible refine Ext.drew ?_) | (with_reducible refine Ext.drewN ?_ _) | (with_reducible refine Ext.alloc ?_ _) | (with_reducible assumption) | ((with_reducible refine Ext.setCell ?_ ?_ _); rotate_left; (first | exact Nat.le_refl _ | ((try dsimp only); (try simp only [World.size_alloc, grow_size, World.size_setCell]); omega)))))), hid (CapB.new Wl _ _)⟩ ?_
                  rintro Wx ⟨HMx, HCx, HYx⟩
                  generalize Wl.heap.size = yb at HYx ⊢
                  clear HMl HCr HXl
                  go_upto_region 26 with (go_at_call 18; refine (hLoad W0 _ q g 4 B' T' D HMx.out (16 * (jj : Int)) 16 (16 * jj) 16 (by omega) (by decide) (by omega)).mono ?_; rintro e Wy ⟨ly, rfl, HRy, HMy, HXy, _⟩)
                  have HCy := hid (HCx.out.ext HXy.out)
                  clear HMx HCx HYx HXy
                  have c0 : World.cell? Wy ⟨cb, 0, none⟩ = some (.bool t3) := HCy.out.2 0 _ rfl
                  have c1 : World.cell? Wy ⟨cb, 1, none⟩ = some (.int .i64 b3) := HCy.out.2 1 _ rfl
                  have c2 : World.cell? Wy ⟨cb, 2, none⟩ = some (.int .i64 tp3) := HCy.out.2 2 _ rfl
                  have c3 : World.cell? Wy ⟨cb, 3, none⟩ = some (.int .i64 at3) := HCy.out.2 3 _ rfl
                  have c4 : World.cell? Wy ⟨cb, 4, none⟩ = some (.int .i64 pm3) := HCy.out.2 4 _ rfl
                  have c5 : World.cell? Wy ⟨cb, 5, none⟩ = some (.int .i64 ty3) := HCy.out.2 5 _ rfl
                  have cl := HCy.out.1
                  have rtn : ∀ w', Calls Try.prog 33 #[.agg #[.bool t3, .int .i64 b3, .int .i64 tp3, .int .i64 at3, .int .i64 pm3, .int .i64 ty3]] w' fun e w'' => e = .returned (.bool false) ∧ Ext w' w'' := fun w' => by
                    have := rcapRight t3 b3 tp3 at3 pm3 ty3 w'
                    rw [HRT.out] at this
                    exact this
                  refine wp_region_grow (by kernel_rfl) (by kernel_rfl) (by first | (simp only [List.append]; rfl) | rfl) ?_
                  (repeat (go_big_quiet_step ((go_at_call 33; exact growOf (rtn _)))))
                  refine wpQuiet_nil ?_
                  intro wq hq
                  obtain ⟨d, rfl⟩ := hq
                  go_wp2
                  go_ret
                  exact ⟨rfl, hx0.trans (Ext.trans HMy.out.2.1 (by repeat (first | (with_reducible exact Ext.refl _) | (with_reducible refine Ext.undrew ?_) | (with_reducible refine Ext.grow ?_ _) | (with_reducible refine Ext.drew ?_) | (with_reducible refine Ext.drewN ?_ _) | (with_reducible refine Ext.alloc ?_ _) | (with_reducible assumption) | ((with_reducible refine Ext.setCell ?_ ?_ _); rotate_left; (first | exact Nat.le_refl _ | ((try dsimp only); (try simp only [World.size_alloc, grow_size, World.size_setCell]); omega))))))⟩
                · clear hRT
                  refine wp_region_turn (q := g) (.rd 0 (.rd 1 (.rd 2 (.rd 3 (.rd 4 (.rd 5 (.rd 6 (.rd 7 (.rd 8 (.rd 9 (.rd 10 (.rd 11 (.rd 12 (.rd 14 (.ac 13 (.ac 15 (.rd 16 (.rd 17 .done)))))))))))))))))) (by kernel_rfl) (by kernel_rfl) (fun _ _ d _ _ h => by cases d <;> exact h) (by simp only [Ord.map, nthOp, List.append]; rfl) ?_
                  intro d0
                  have hxg : Ext W8 (Go.Proofs.Ytgpeabbbeidhpaa.grow W8 d0) := Ext.grow (Ext.refl _) d0
                  have HTg8 := hid (HT8.out.ext hxg)
                  have HRx := hid (HR8.out.ext hxg)
                  have HDx := hid (HD8.out.rd.ext hxg)
                  repeat (refine turn_read (by rfl) (fun K hK => ?_); (first | (refine quiet_strT 29 9 5 _ (by rfl) Try.underlying29 Try.underlying5 Try.underlying9 (some ⟨lb8, 0, none⟩) _ 1024 lB (by rfl) HLL.out.symm (HRx.out) (fun b o e => by cases e; exact hn8) (fun h => by have := HLL.out; rw [h] at this; cases this) (hK _ ?_)) | (refine quiet_strT 29 9 5 _ (by rfl) Try.underlying29 Try.underlying5 Try.underlying9 (some ⟨hb, 0, none⟩) _ 1024 lB (by rfl) HLL.out.symm (HDx.out) (fun b o e => by cases e; exact hnb) (fun h => by have := HLL.out; rw [h] at this; cases this) (hK _ ?_)) | (go_big_quiet_op; refine hK _ ?_)); clear hK K; (try simp only [Act.put, List.setIfInBounds_toArray, List.set_cons_zero, List.set_cons_succ]))
                  refine turn_act (by rfl) (fun K hK => ?_)
                  go_wp2_with (go_at_call 12; refine (hScYes W0 _ q g 4 B' T' D HTg8.out (16 * (jj : Int)) t3 b3 tp3 at3 pm3 ty3 hpl HRT.out).mono ?_; rintro e W9 ⟨p, i, hp, hi, hpi, rfl, HM9, HO9⟩; have HPI := hid hpi; clear hpi)
                  refine ⟨W9, HO9.out, Only.refl _ _, ?_⟩
                  clear c0 c1 c2 c3 c4 c5 cl
                  have HC9 := hid ((HC8.out.ext hxg).only (HO9.out) hncb)
                  have c0 : World.cell? W9 ⟨cb, 0, none⟩ = some (.bool t3) := HC9.out.2 0 _ rfl
                  have c1 : World.cell? W9 ⟨cb, 1, none⟩ = some (.int .i64 b3) := HC9.out.2 1 _ rfl
                  have c2 : World.cell? W9 ⟨cb, 2, none⟩ = some (.int .i64 tp3) := HC9.out.2 2 _ rfl
                  have c3 : World.cell? W9 ⟨cb, 3, none⟩ = some (.int .i64 at3) := HC9.out.2 3 _ rfl
                  have c4 : World.cell? W9 ⟨cb, 4, none⟩ = some (.int .i64 pm3) := HC9.out.2 4 _ rfl
                  have c5 : World.cell? W9 ⟨cb, 5, none⟩ = some (.int .i64 ty3) := HC9.out.2 5 _ rfl
                  have cl := HC9.out.1
                  clear HC8 HTg8 HRx HDx hxg HR8 HD8 HT8 HO9
                  refine turn_act (by rfl) (fun K hK => ?_)
                  go_wp2_with (go_at_call 33; refine (rcapRight _ _ _ _ _ _ _).mono ?_; rw [HRT.out]; rintro e Wr ⟨rfl, hxr⟩)
                  refine ⟨_, Only.refl _ _, Only.ofExt hxr, ?_⟩
                  repeat (refine turn_read (by rfl) (fun K hK => ?_); go_big_quiet_op; refine hK _ ?_; clear hK K)
                  refine turn_nil ?_
                  clear c0 c1 c2 c3 c4 c5 cl
                  have HCr := hid (HC9.out.ext hxr)
                  have HMr := hid (HM9.out.ext hxr)
                  clear HM9 hxr HC9
                  go_upto_region 25 with (go_at_call 20; refine (hLcOf W0 _ q g 4 _ _ _ HMr.out (16 * (jj : Int)) p i hp hi HPI.out ⟨t3, b3, tp3, at3, pm3, ty3⟩ (getL_put HRT.out)).mono ?_; rintro e Wl ⟨rfl, HMl, HXl⟩)
                  refine wp_gen (fun W => Hid (HM W0 W q g 4 _ _ _) ∧ Hid (CapB W cb [.bool t3, .int .i64 b3, .int .i64 tp3, .int .i64 at3, .int .i64 pm3, .int .i64 ty3]) ∧ Hid (CapB W Wl.heap.size [.bool t3, .int .i64 b3, .int .i64 tp3, .int .i64 at3, .int .i64 pm3, .int .i64 ty3])) ⟨hid (HMl.out.ext (by repeat (first | (with_reducible exact Ext.refl _) | (with_reducible refine Ext.undrew ?_) | (with_reducible refine Ext.grow ?_ _) | (with_reducible refine Ext.drew ?_) | (with_reducible refine Ext.drewN ?_ _) | (with_reducible refine Ext.alloc ?_ _) | (with_reducible assumption) | ((with_reducible refine Ext.setCell ?_ ?_ _); rotate_left; (first | exact Nat.le_refl _ | ((try dsimp only); (try simp only [World.size_alloc, grow_size, World.size_setCell]); omega)))))), hid ((HCr.out.ext HXl.out).ext (by repeat (first | (with_reducible exact Ext.refl _) | (with_reducible refine Ext.undrew ?_) | (with_reducible refine Ext.grow ?_ _) | (with_reducible refine Ext.drew ?_) | (with_reducible refine Ext.drewN ?_ _) | (with_reducible refine Ext.alloc ?_ _) | (with_reducible assumption) | ((with_reducible refine Ext.setCell ?_ ?_ _); rotate_left; (first | exact Nat.le_refl _ | ((try dsimp only); (try simp only [World.size_alloc, grow_size, World.size_setCell]); omega)))))), hid (CapB.new Wl _ _)⟩ ?_
                  rintro Wx ⟨HMx, HCx, HYx⟩
                  generalize Wl.heap.size = yb at HYx ⊢
                  clear HMl HCr HXl
                  have HIJ : Hid (16 * jj = 256 * p + 16 * i) := hid (by have := HPI.out; omega)
                  go_upto_region 26 with (go_at_call 18; refine (hLoad W0 _ q g 4 _ _ _ HMx.out (16 * (jj : Int)) 16 (16 * jj) 16 (by omega) (by decide) (by omega)).mono ?_; rintro e Wy ⟨ly, rfl, HRy, HMy, HXy, _⟩)
                  rw [HIJ.out, bytesAt_put (bytesC_length _)] at HRy
                  have HCy := hid (HCx.out.ext HXy.out)
                  have HYy := hid (HYx.out.ext HXy.out)
                  clear HMx HCx HYx HXy
                  have c0 : World.cell? Wy ⟨cb, 0, none⟩ = some (.bool t3) := HCy.out.2 0 _ rfl
                  have c1 : World.cell? Wy ⟨cb, 1, none⟩ = some (.int .i64 b3) := HCy.out.2 1 _ rfl
                  have c2 : World.cell? Wy ⟨cb, 2, none⟩ = some (.int .i64 tp3) := HCy.out.2 2 _ rfl
                  have c3 : World.cell? Wy ⟨cb, 3, none⟩ = some (.int .i64 at3) := HCy.out.2 3 _ rfl
                  have c4 : World.cell? Wy ⟨cb, 4, none⟩ = some (.int .i64 pm3) := HCy.out.2 4 _ rfl
                  have c5 : World.cell? Wy ⟨cb, 5, none⟩ = some (.int .i64 ty3) := HCy.out.2 5 _ rfl
                  have cl := HCy.out.1
                  have e0 : World.cell? Wy ⟨yb, 0, none⟩ = some (.bool t3) := HYy.out.2 0 _ rfl
                  have e1 : World.cell? Wy ⟨yb, 1, none⟩ = some (.int .i64 b3) := HYy.out.2 1 _ rfl
                  have e2 : World.cell? Wy ⟨yb, 2, none⟩ = some (.int .i64 tp3) := HYy.out.2 2 _ rfl
                  have e3 : World.cell? Wy ⟨yb, 3, none⟩ = some (.int .i64 at3) := HYy.out.2 3 _ rfl
                  have e4 : World.cell? Wy ⟨yb, 4, none⟩ = some (.int .i64 pm3) := HYy.out.2 4 _ rfl
                  have e5 : World.cell? Wy ⟨yb, 5, none⟩ = some (.int .i64 ty3) := HYy.out.2 5 _ rfl
                  have el := HYy.out.1
                  refine wp_region_step (.rd 0 (.rd 1 (.rd 2 (.rd 3 (.rd 4 (.rd 5 (.ac 6 (.rd 7 (.rd 8 (.rd 9 (.rd 10 (.rd 11 (.rd 12 (.rd 13 (.rd 14 (.rd 15 (.ac 16 (.rd 17 (.rd 18 (.rd 19 (.rd 20 (.rd 21 (.rd 22 .done))))))))))))))))))))))) (by kernel_rfl) (by kernel_rfl) (fun _ _ d _ _ h => by cases d <;> exact h) (by simp only [Ord.map, nthOp, List.append]; rfl) ?_
                  intro d0
                  repeat' (first | (refine step_skip (by rfl) ?_) | (refine step_idle (by rfl) ?_) | (refine step_read (by rfl) (fun K hK => ?_); (refine quiet_str 29 9 5 _ (by rfl) Try.underlying29 Try.underlying5 Try.underlying9 (some ⟨ly, 0, none⟩) _ 16 (bytesC ⟨t3, b3, tp3, at3, pm3, ty3⟩) (by rfl) (bytesC_length _).symm (HRy.out.ext (by repeat (first | (with_reducible exact Ext.refl _) | (with_reducible refine Ext.undrew ?_) | (with_reducible refine Ext.grow ?_ _) | (with_reducible refine Ext.drew ?_) | (with_reducible refine Ext.drewN ?_ _) | (with_reducible refine Ext.alloc ?_ _) | (with_reducible assumption) | ((with_reducible refine Ext.setCell ?_ ?_ _); rotate_left; (first | exact Nat.le_refl _ | ((try dsimp only); (try simp only [World.size_alloc, grow_size, World.size_setCell]); omega)))))) (fun h => by have h1 := bytesC_length ⟨t3, b3, tp3, at3, pm3, ty3⟩; rw [h] at h1; cases h1) ?_); refine hK _ ?_; clear hK K; simp only [Act.put, List.setIfInBounds_toArray, List.set_cons_zero, List.set_cons_succ]) | (refine step_read (by rfl) (fun K hK => ?_); (refine quiet_str 29 9 5 _ (by rfl) Try.underlying29 Try.underlying5 Try.underlying9 (some ⟨qp, 0, none⟩) _ 16 (bytesC ⟨t3, b3, tp3, at3, pm3, ty3⟩) (by rfl) (bytesC_length _).symm (HRp.out.ext (by repeat (first | (with_reducible exact Ext.refl _) | (with_reducible refine Ext.undrew ?_) | (with_reducible refine Ext.grow ?_ _) | (with_reducible refine Ext.drew ?_) | (with_reducible refine Ext.drewN ?_ _) | (with_reducible refine Ext.alloc ?_ _) | (with_reducible assumption) | ((with_reducible refine Ext.setCell ?_ ?_ _); rotate_left; (first | exact Nat.le_refl _ | ((try dsimp only); (try simp only [World.size_alloc, grow_size, World.size_setCell]); omega)))))) (fun h => by have h1 := bytesC_length ⟨t3, b3, tp3, at3, pm3, ty3⟩; rw [h] at h1; cases h1) ?_); refine hK _ ?_; clear hK K; simp only [Act.put, List.setIfInBounds_toArray, List.set_cons_zero, List.set_cons_succ]) | (refine step_read (by rfl) (fun K hK => ?_); go_big_quiet_op; refine hK _ ?_; clear hK K) | (refine step_act (by rfl) (fun K hK => ?_); go_wp2_with (first | (go_at_call 33; refine (rcapRight _ _ _ _ _ _ _).mono ?_; rw [HRT.out]; rintro e Wr ⟨rfl, hxr⟩; obtain ⟨dr, rfl⟩ := hxr.grown; clear hxr) | (go_at_call 34; refine (rput_yes t3 b3 tp3 at3 pm3 ty3 _ HRT.out).mono ?_; rintro e Wr ⟨qp, cp, rfl, hp1, hp2, hp3, HRp0, hxr⟩; have HRp := hid HRp0; clear HRp0; obtain ⟨dr, rfl⟩ := hxr.grown; clear hxr)); refine ⟨_, (by repeat (first | (with_reducible exact Ext.refl _) | (with_reducible refine Ext.undrew ?_) | (with_reducible refine Ext.grow ?_ _) | (with_reducible refine Ext.drew ?_) | (with_reducible refine Ext.drewN ?_ _) | (with_reducible refine Ext.alloc ?_ _) | (with_reducible assumption) | ((with_reducible refine Ext.setCell ?_ ?_ _); rotate_left; (first | exact Nat.le_refl _ | ((try dsimp only); (try simp only [World.size_alloc, grow_size, World.size_setCell]); omega))))), Ext.refl _, ?_⟩) | refine step_br ?_ ?_)
                  all_goals refine step_nil ?_
                  go_wp2
                  go_ret
                  exact ⟨rfl, hx0.trans (Ext.trans HMy.out.2.1 (by repeat (first | (with_reducible exact Ext.refl _) | (with_reducible refine Ext.undrew ?_) | (with_reducible refine Ext.grow ?_ _) | (with_reducible refine Ext.drew ?_) | (with_reducible refine Ext.drewN ?_ _) | (with_reducible refine Ext.alloc ?_ _) | (with_reducible assumption) | ((with_reducible refine Ext.setCell ?_ ?_ _); rotate_left; (first | exact Nat.le_refl _ | ((try dsimp only); (try simp only [World.size_alloc, grow_size, World.size_setCell]); omega))))))⟩
          · skip
            have hm0 : (0 : Int) < (m : Int) := by omega
            have hfi : ¬ (a : Int) + (m : Int) ≤ 1024 := by omega
            have hfd : decide ((a : Int) + (m : Int) ≤ 1024) = false := decide_eq_false hfi
            go_upto_region 15 with (go_at_call 22; refine (hStNo W0 _ q g 4 B T D HT3.out (a : Int) A2 m cap2 (fun c => by obtain ⟨_, _, _, c4⟩ := c; omega)).mono ?_; rintro e W4 ⟨rfl, HT4, HO4⟩)
            have HR4 := hid (HR3.out.ext HO4.out)
            clear HT3 HR3 HO4
            have HNW := hid (OwnB.new W4 W4.heap.size [] 0 rfl (by decide) (Nat.le_refl _))
            go_upto_region 16 with (at_builtin; go_loud (refine app_own rfl _ _ rfl W4.heap.size _ [] rfl HNW.out (some ⟨lb3, 0, none⟩) 1024 1024 (bytesAt B 0 1024) rfl (bytesAt_length _ _ _) (HR4.out.ext (by repeat (first | (with_reducible exact Ext.refl _) | (with_reducible refine Ext.undrew ?_) | (with_reducible refine Ext.grow ?_ _) | (with_reducible refine Ext.drew ?_) | (with_reducible refine Ext.drewN ?_ _) | (with_reducible refine Ext.alloc ?_ _) | (with_reducible assumption) | ((with_reducible refine Ext.setCell ?_ ?_ _); rotate_left; (first | exact Nat.le_refl _ | ((try dsimp only); (try simp only [World.size_alloc, grow_size, World.size_setCell]); omega)))))) (by intro h; cases h) (by simp) (by simp) ?_); intro v' W5 hown hgr)
            rw [List.nil_append] at hown
            obtain ⟨hb, hc, rfl, hc1, hc2, hbl, HD0⟩ := hown.ownD (by rw [bytesAt_length]; omega)
            have HD5 := hid HD0
            have hx5 : Ext W4 W5 := Ext.owned (by repeat (first | (with_reducible exact Ext.refl _) | (with_reducible refine Ext.undrew ?_) | (with_reducible refine Ext.grow ?_ _) | (with_reducible refine Ext.drew ?_) | (with_reducible refine Ext.drewN ?_ _) | (with_reducible refine Ext.alloc ?_ _) | (with_reducible assumption) | ((with_reducible refine Ext.setCell ?_ ?_ _); rotate_left; (first | exact Nat.le_refl _ | ((try dsimp only); (try simp only [World.size_alloc, grow_size, World.size_setCell]); omega))))) HNW.out hgr
            have HT5 := hid (HT4.out.ext hx5)
            have hnb : ¬ hb = g := by have := HT4.out.1.ltg; omega
            have hncb : ¬ cb = g := by have := HT4.out.2.2.1; have := HCB.out; omega
            have HQ4 : Hid (q < W4.heap.size ∧ W0.heap.size ≤ W4.heap.size) := hid ⟨HT4.out.1.ltq, HT4.out.2.1.size⟩
            rw [bytesAt_length] at hc1 ⊢
            clear HT4 HR4 hown hgr HNW hx5 HD0
            have hc3 : (1024 : Int) ≤ (hc : Int) := by omega
            have HBQ : Hid (¬ q = hb ∧ ¬ g = hb ∧ W0.heap.size ≤ hb) := hid ⟨by have := HT5.out.1.ltq; have := HQ4.out; omega, fun e => hnb e.symm, by have := HQ4.out; omega⟩
            clear HQ4
            go_wp2
            go_loopw [16] (fun iv wr => iv = .int .i64 0 ∧ wr = W5) (fun iv _ => 0)
            case atStart => exact ⟨rfl, rfl⟩
            case round =>
              obtain ⟨rfl, rfl⟩ := hrel
              obtain ⟨B', hB'⟩ : ∃ B', B = B' := ⟨_, rfl⟩
              obtain ⟨T', hT'⟩ : ∃ T', T = T' := ⟨_, rfl⟩
              have HT7 := HT5
              have HD7 := HD5
              clear HT5 HD5
              rw [hB'] at HD7 HT7
              rw [hT'] at HT7
              clear hB' hT'
              obtain ⟨lB, hlB0⟩ : ∃ l, bytesAt B' 0 1024 = l := ⟨_, rfl⟩
              have HLB := hid hlB0
              have HLL : Hid (lB.length = 1024) := hid (by rw [← hlB0]; exact bytesAt_length _ _ _)
              clear hlB0
              rw [HLB.out] at HD7
              go_upto_region 21 with (go_at_call 18; refine (hLoad W0 _ q g 4 B' T' D HT7.out 0 1024 0 1024 (by decide) (by decide) (by decide)).mono ?_; rintro e W8 ⟨lb8, rfl, HR8, HT8, HX8, HF8⟩)
              rw [HLB.out] at HR8
              have HD8 := hid (HD7.out.ext HX8.out)
              have HC8 := hid (HC0.out.ext HT8.out.2.1)
              have hn8 : ¬ lb8 = g := by have := HF8.out.1; have := HT7.out.1.ltg; omega
              clear HD7 HX8 HF8 HT7
              obtain ⟨jj, hjj, htj⟩ : ∃ jj : Nat, jj < 64 ∧ ((a : Int)).tmod 64 = (jj : Int) := ⟨a % 64, by omega, by rw [Int.tmod_eq_emod_of_nonneg (by omega)]; omega⟩
              have hjj0 : (0 : Int) ≤ (jj : Int) := by omega
              have hjj1 : (jj : Int) < 64 := by omega
              go_upto_region 22 with (fail)
              clear htj
              have hpl : placeP 4 (16 * (jj : Int)) := ⟨by omega, by omega, by omega⟩
              have c0 : World.cell? W8 ⟨cb, 0, none⟩ = some (.bool t3) := HC8.out.2 0 _ rfl
              have c1 : World.cell? W8 ⟨cb, 1, none⟩ = some (.int .i64 b3) := HC8.out.2 1 _ rfl
              have c2 : World.cell? W8 ⟨cb, 2, none⟩ = some (.int .i64 tp3) := HC8.out.2 2 _ rfl
              have c3 : World.cell? W8 ⟨cb, 3, none⟩ = some (.int .i64 at3) := HC8.out.2 3 _ rfl
              have c4 : World.cell? W8 ⟨cb, 4, none⟩ = some (.int .i64 pm3) := HC8.out.2 4 _ rfl
              have c5 : World.cell? W8 ⟨cb, 5, none⟩ = some (.int .i64 ty3) := HC8.out.2 5 _ rfl
              have cl := HC8.out.1
              obtain ⟨RT, hRT⟩ : ∃ r, rightC ⟨t3, b3, tp3, at3, pm3, ty3⟩ = r := ⟨_, rfl⟩
              have HRT := hid hRT
              rcases RT with _ | _
              · clear hRT
                refine wp_region_turn (q := g) (.rd 0 (.rd 1 (.rd 2 (.rd 3 (.rd 4 (.rd 5 (.rd 6 (.rd 7 (.rd 8 (.rd 9 (.rd 10 (.rd 11 (.rd 12 (.rd 14 (.ac 13 (.ac 15 (.rd 16 (.rd 17 .done)))))))))))))))))) (by kernel_rfl) (by kernel_rfl) (fun _ _ d _ _ h => by cases d <;> exact h) (by simp only [Ord.map, nthOp, List.append]; rfl) ?_
                intro d0
                have hxg : Ext W8 (Go.Proofs.Ytgpeabbbeidhpaa.grow W8 d0) := Ext.grow (Ext.refl _) d0
                have HTg8 := hid (HT8.out.ext hxg)
                have HRx := hid (HR8.out.ext hxg)
                have HDx := hid (HD8.out.rd.ext hxg)
                repeat (refine turn_read (by rfl) (fun K hK => ?_); (first | (refine quiet_strT 29 9 5 _ (by rfl) Try.underlying29 Try.underlying5 Try.underlying9 (some ⟨lb8, 0, none⟩) _ 1024 lB (by rfl) HLL.out.symm (HRx.out) (fun b o e => by cases e; exact hn8) (fun h => by have := HLL.out; rw [h] at this; cases this) (hK _ ?_)) | (refine quiet_strT 29 9 5 _ (by rfl) Try.underlying29 Try.underlying5 Try.underlying9 (some ⟨hb, 0, none⟩) _ 1024 lB (by rfl) HLL.out.symm (HDx.out) (fun b o e => by cases e; exact hnb) (fun h => by have := HLL.out; rw [h] at this; cases this) (hK _ ?_)) | (go_big_quiet_op; refine hK _ ?_)); clear hK K; (try simp only [Act.put, List.setIfInBounds_toArray, List.set_cons_zero, List.set_cons_succ]))
                refine turn_act (by rfl) (fun K hK => ?_)
                go_wp2_with (go_at_call 12; refine (hScNo W0 _ q g 4 B' T' D HTg8.out (16 * (jj : Int)) t3 b3 tp3 at3 pm3 ty3 (fun c => by rw [HRT.out] at c; exact Bool.noConfusion c.2)).mono ?_; rintro e W9 ⟨rfl, HM9, HO9⟩)
                refine ⟨W9, Only.ofExt (S := (· = g)) HO9.out, Only.refl _ _, ?_⟩
                clear c0 c1 c2 c3 c4 c5 cl
                have HC9 := hid ((HC8.out.ext hxg).only (Only.ofExt (S := (· = g)) HO9.out) hncb)
                have c0 : World.cell? W9 ⟨cb, 0, none⟩ = some (.bool t3) := HC9.out.2 0 _ rfl
                have c1 : World.cell? W9 ⟨cb, 1, none⟩ = some (.int .i64 b3) := HC9.out.2 1 _ rfl
                have c2 : World.cell? W9 ⟨cb, 2, none⟩ = some (.int .i64 tp3) := HC9.out.2 2 _ rfl
                have c3 : World.cell? W9 ⟨cb, 3, none⟩ = some (.int .i64 at3) := HC9.out.2 3 _ rfl
                have c4 : World.cell? W9 ⟨cb, 4, none⟩ = some (.int .i64 pm3) := HC9.out.2 4 _ rfl
                have c5 : World.cell? W9 ⟨cb, 5, none⟩ = some (.int .i64 ty3) := HC9.out.2 5 _ rfl
                have cl := HC9.out.1
                clear HC8 HTg8 HRx HDx hxg HR8 HD8 HT8 HO9
                refine turn_act (by rfl) (fun K hK => ?_)
                go_wp2_with (go_at_call 33; refine (rcapRight _ _ _ _ _ _ _).mono ?_; rw [HRT.out]; rintro e Wr ⟨rfl, hxr⟩)
                refine ⟨_, Only.refl _ _, Only.ofExt hxr, ?_⟩
                repeat (refine turn_read (by rfl) (fun K hK => ?_); go_big_quiet_op; refine hK _ ?_; clear hK K)
                refine turn_nil ?_
                clear c0 c1 c2 c3 c4 c5 cl
                have HCr := hid (HC9.out.ext hxr)
                have HMr := hid (HM9.out.ext hxr)
                clear HM9 hxr HC9
                go_upto_region 25 with (go_at_call 20; refine (hLcAny W0 _ q g 4 B' T' D HMr.out (16 * (jj : Int)) hpl).mono ?_; rintro e Wl ⟨c, rfl, HMl, HXl⟩)
                refine wp_gen (fun W => Hid (HM W0 W q g 4 _ _ _) ∧ Hid (CapB W cb [.bool t3, .int .i64 b3, .int .i64 tp3, .int .i64 at3, .int .i64 pm3, .int .i64 ty3]) ∧ Hid (CapB W Wl.heap.size [.bool c.tag, .int .i64 c.base, .int .i64 c.top, .int .i64 c.at_, .int .i64 c.perms, .int .i64 c.type])) ⟨hid (HMl.out.ext (by repeat (first | (with_reducible exact Ext.refl _) | (with_reducible refine Ext.undrew ?_) | (with_reducible refine Ext.grow ?_ _) | (with_reducible refine Ext.drew ?_) | (with_reducible refine Ext.drewN ?_ _) | (with_reducible refine Ext.alloc ?_ _) | (with_reducible assumption) | ((with_reducible refine Ext.setCell ?_ ?_ _); rotate_left; (first | exact Nat.le_refl _ | ((try dsimp only); (try simp only [World.size_alloc, grow_size, World.size_setCell]); omega)))))), hid ((HCr.out.ext HXl.out).ext (by repeat (first | (with_reducible exact Ext.refl _) | (with_reducible refine Ext.undrew ?_) | (with_reducible refine Ext.grow ?_ _) | (with_reducible refine Ext.drew ?_) | (with_reducible refine Ext.drewN ?_ _) | (with_reducible refine Ext.alloc ?_ _) | (with_reducible assumption) | ((with_reducible refine Ext.setCell ?_ ?_ _); rotate_left; (first | exact Nat.le_refl _ | ((try dsimp only); (try simp only [World.size_alloc, grow_size, World.size_setCell]); omega)))))), hid (CapB.new Wl _ _)⟩ ?_
                rintro Wx ⟨HMx, HCx, HYx⟩
                generalize Wl.heap.size = yb at HYx ⊢
                clear HMl HCr HXl
                go_upto_region 26 with (go_at_call 18; refine (hLoad W0 _ q g 4 B' T' D HMx.out (16 * (jj : Int)) 16 (16 * jj) 16 (by omega) (by decide) (by omega)).mono ?_; rintro e Wy ⟨ly, rfl, HRy, HMy, HXy, _⟩)
                have HCy := hid (HCx.out.ext HXy.out)
                clear HMx HCx HYx HXy
                have c0 : World.cell? Wy ⟨cb, 0, none⟩ = some (.bool t3) := HCy.out.2 0 _ rfl
                have c1 : World.cell? Wy ⟨cb, 1, none⟩ = some (.int .i64 b3) := HCy.out.2 1 _ rfl
                have c2 : World.cell? Wy ⟨cb, 2, none⟩ = some (.int .i64 tp3) := HCy.out.2 2 _ rfl
                have c3 : World.cell? Wy ⟨cb, 3, none⟩ = some (.int .i64 at3) := HCy.out.2 3 _ rfl
                have c4 : World.cell? Wy ⟨cb, 4, none⟩ = some (.int .i64 pm3) := HCy.out.2 4 _ rfl
                have c5 : World.cell? Wy ⟨cb, 5, none⟩ = some (.int .i64 ty3) := HCy.out.2 5 _ rfl
                have cl := HCy.out.1
                have rtn : ∀ w', Calls Try.prog 33 #[.agg #[.bool t3, .int .i64 b3, .int .i64 tp3, .int .i64 at3, .int .i64 pm3, .int .i64 ty3]] w' fun e w'' => e = .returned (.bool false) ∧ Ext w' w'' := fun w' => by
                  have := rcapRight t3 b3 tp3 at3 pm3 ty3 w'
                  rw [HRT.out] at this
                  exact this
                refine wp_region_grow (by kernel_rfl) (by kernel_rfl) (by first | (simp only [List.append]; rfl) | rfl) ?_
                (repeat (go_big_quiet_step ((go_at_call 33; exact growOf (rtn _)))))
                refine wpQuiet_nil ?_
                intro wq hq
                obtain ⟨d, rfl⟩ := hq
                go_wp2
                go_ret
                exact ⟨rfl, hx0.trans (Ext.trans HMy.out.2.1 (by repeat (first | (with_reducible exact Ext.refl _) | (with_reducible refine Ext.undrew ?_) | (with_reducible refine Ext.grow ?_ _) | (with_reducible refine Ext.drew ?_) | (with_reducible refine Ext.drewN ?_ _) | (with_reducible refine Ext.alloc ?_ _) | (with_reducible assumption) | ((with_reducible refine Ext.setCell ?_ ?_ _); rotate_left; (first | exact Nat.le_refl _ | ((try dsimp only); (try simp only [World.size_alloc, grow_size, World.size_setCell]); omega))))))⟩
              · clear hRT
                refine wp_region_turn (q := g) (.rd 0 (.rd 1 (.rd 2 (.rd 3 (.rd 4 (.rd 5 (.rd 6 (.rd 7 (.rd 8 (.rd 9 (.rd 10 (.rd 11 (.rd 12 (.rd 14 (.ac 13 (.ac 15 (.rd 16 (.rd 17 .done)))))))))))))))))) (by kernel_rfl) (by kernel_rfl) (fun _ _ d _ _ h => by cases d <;> exact h) (by simp only [Ord.map, nthOp, List.append]; rfl) ?_
                intro d0
                have hxg : Ext W8 (Go.Proofs.Ytgpeabbbeidhpaa.grow W8 d0) := Ext.grow (Ext.refl _) d0
                have HTg8 := hid (HT8.out.ext hxg)
                have HRx := hid (HR8.out.ext hxg)
                have HDx := hid (HD8.out.rd.ext hxg)
                repeat (refine turn_read (by rfl) (fun K hK => ?_); (first | (refine quiet_strT 29 9 5 _ (by rfl) Try.underlying29 Try.underlying5 Try.underlying9 (some ⟨lb8, 0, none⟩) _ 1024 lB (by rfl) HLL.out.symm (HRx.out) (fun b o e => by cases e; exact hn8) (fun h => by have := HLL.out; rw [h] at this; cases this) (hK _ ?_)) | (refine quiet_strT 29 9 5 _ (by rfl) Try.underlying29 Try.underlying5 Try.underlying9 (some ⟨hb, 0, none⟩) _ 1024 lB (by rfl) HLL.out.symm (HDx.out) (fun b o e => by cases e; exact hnb) (fun h => by have := HLL.out; rw [h] at this; cases this) (hK _ ?_)) | (go_big_quiet_op; refine hK _ ?_)); clear hK K; (try simp only [Act.put, List.setIfInBounds_toArray, List.set_cons_zero, List.set_cons_succ]))
                refine turn_act (by rfl) (fun K hK => ?_)
                go_wp2_with (go_at_call 12; refine (hScYes W0 _ q g 4 B' T' D HTg8.out (16 * (jj : Int)) t3 b3 tp3 at3 pm3 ty3 hpl HRT.out).mono ?_; rintro e W9 ⟨p, i, hp, hi, hpi, rfl, HM9, HO9⟩; have HPI := hid hpi; clear hpi)
                refine ⟨W9, HO9.out, Only.refl _ _, ?_⟩
                clear c0 c1 c2 c3 c4 c5 cl
                have HC9 := hid ((HC8.out.ext hxg).only (HO9.out) hncb)
                have c0 : World.cell? W9 ⟨cb, 0, none⟩ = some (.bool t3) := HC9.out.2 0 _ rfl
                have c1 : World.cell? W9 ⟨cb, 1, none⟩ = some (.int .i64 b3) := HC9.out.2 1 _ rfl
                have c2 : World.cell? W9 ⟨cb, 2, none⟩ = some (.int .i64 tp3) := HC9.out.2 2 _ rfl
                have c3 : World.cell? W9 ⟨cb, 3, none⟩ = some (.int .i64 at3) := HC9.out.2 3 _ rfl
                have c4 : World.cell? W9 ⟨cb, 4, none⟩ = some (.int .i64 pm3) := HC9.out.2 4 _ rfl
                have c5 : World.cell? W9 ⟨cb, 5, none⟩ = some (.int .i64 ty3) := HC9.out.2 5 _ rfl
                have cl := HC9.out.1
                clear HC8 HTg8 HRx HDx hxg HR8 HD8 HT8 HO9
                refine turn_act (by rfl) (fun K hK => ?_)
                go_wp2_with (go_at_call 33; refine (rcapRight _ _ _ _ _ _ _).mono ?_; rw [HRT.out]; rintro e Wr ⟨rfl, hxr⟩)
                refine ⟨_, Only.refl _ _, Only.ofExt hxr, ?_⟩
                repeat (refine turn_read (by rfl) (fun K hK => ?_); go_big_quiet_op; refine hK _ ?_; clear hK K)
                refine turn_nil ?_
                clear c0 c1 c2 c3 c4 c5 cl
                have HCr := hid (HC9.out.ext hxr)
                have HMr := hid (HM9.out.ext hxr)
                clear HM9 hxr HC9
                go_upto_region 25 with (go_at_call 20; refine (hLcOf W0 _ q g 4 _ _ _ HMr.out (16 * (jj : Int)) p i hp hi HPI.out ⟨t3, b3, tp3, at3, pm3, ty3⟩ (getL_put HRT.out)).mono ?_; rintro e Wl ⟨rfl, HMl, HXl⟩)
                refine wp_gen (fun W => Hid (HM W0 W q g 4 _ _ _) ∧ Hid (CapB W cb [.bool t3, .int .i64 b3, .int .i64 tp3, .int .i64 at3, .int .i64 pm3, .int .i64 ty3]) ∧ Hid (CapB W Wl.heap.size [.bool t3, .int .i64 b3, .int .i64 tp3, .int .i64 at3, .int .i64 pm3, .int .i64 ty3])) ⟨hid (HMl.out.ext (by repeat (first | (with_reducible exact Ext.refl _) | (with_reducible refine Ext.undrew ?_) | (with_reducible refine Ext.grow ?_ _) | (with_reducible refine Ext.drew ?_) | (with_reducible refine Ext.drewN ?_ _) | (with_reducible refine Ext.alloc ?_ _) | (with_reducible assumption) | ((with_reducible refine Ext.setCell ?_ ?_ _); rotate_left; (first | exact Nat.le_refl _ | ((try dsimp only); (try simp only [World.size_alloc, grow_size, World.size_setCell]); omega)))))), hid ((HCr.out.ext HXl.out).ext (by repeat (first | (with_reducible exact Ext.refl _) | (with_reducible refine Ext.undrew ?_) | (with_reducible refine Ext.grow ?_ _) | (with_reducible refine Ext.drew ?_) | (with_reducible refine Ext.drewN ?_ _) | (with_reducible refine Ext.alloc ?_ _) | (with_reducible assumption) | ((with_reducible refine Ext.setCell ?_ ?_ _); rotate_left; (first | exact Nat.le_refl _ | ((try dsimp only); (try simp only [World.size_alloc, grow_size, World.size_setCell]); omega)))))), hid (CapB.new Wl _ _)⟩ ?_
                rintro Wx ⟨HMx, HCx, HYx⟩
                generalize Wl.heap.size = yb at HYx ⊢
                clear HMl HCr HXl
                have HIJ : Hid (16 * jj = 256 * p + 16 * i) := hid (by have := HPI.out; omega)
                go_upto_region 26 with (go_at_call 18; refine (hLoad W0 _ q g 4 _ _ _ HMx.out (16 * (jj : Int)) 16 (16 * jj) 16 (by omega) (by decide) (by omega)).mono ?_; rintro e Wy ⟨ly, rfl, HRy, HMy, HXy, _⟩)
                rw [HIJ.out, bytesAt_put (bytesC_length _)] at HRy
                have HCy := hid (HCx.out.ext HXy.out)
                have HYy := hid (HYx.out.ext HXy.out)
                clear HMx HCx HYx HXy
                have c0 : World.cell? Wy ⟨cb, 0, none⟩ = some (.bool t3) := HCy.out.2 0 _ rfl
                have c1 : World.cell? Wy ⟨cb, 1, none⟩ = some (.int .i64 b3) := HCy.out.2 1 _ rfl
                have c2 : World.cell? Wy ⟨cb, 2, none⟩ = some (.int .i64 tp3) := HCy.out.2 2 _ rfl
                have c3 : World.cell? Wy ⟨cb, 3, none⟩ = some (.int .i64 at3) := HCy.out.2 3 _ rfl
                have c4 : World.cell? Wy ⟨cb, 4, none⟩ = some (.int .i64 pm3) := HCy.out.2 4 _ rfl
                have c5 : World.cell? Wy ⟨cb, 5, none⟩ = some (.int .i64 ty3) := HCy.out.2 5 _ rfl
                have cl := HCy.out.1
                have e0 : World.cell? Wy ⟨yb, 0, none⟩ = some (.bool t3) := HYy.out.2 0 _ rfl
                have e1 : World.cell? Wy ⟨yb, 1, none⟩ = some (.int .i64 b3) := HYy.out.2 1 _ rfl
                have e2 : World.cell? Wy ⟨yb, 2, none⟩ = some (.int .i64 tp3) := HYy.out.2 2 _ rfl
                have e3 : World.cell? Wy ⟨yb, 3, none⟩ = some (.int .i64 at3) := HYy.out.2 3 _ rfl
                have e4 : World.cell? Wy ⟨yb, 4, none⟩ = some (.int .i64 pm3) := HYy.out.2 4 _ rfl
                have e5 : World.cell? Wy ⟨yb, 5, none⟩ = some (.int .i64 ty3) := HYy.out.2 5 _ rfl
                have el := HYy.out.1
                refine wp_region_step (.rd 0 (.rd 1 (.rd 2 (.rd 3 (.rd 4 (.rd 5 (.ac 6 (.rd 7 (.rd 8 (.rd 9 (.rd 10 (.rd 11 (.rd 12 (.rd 13 (.rd 14 (.rd 15 (.ac 16 (.rd 17 (.rd 18 (.rd 19 (.rd 20 (.rd 21 (.rd 22 .done))))))))))))))))))))))) (by kernel_rfl) (by kernel_rfl) (fun _ _ d _ _ h => by cases d <;> exact h) (by simp only [Ord.map, nthOp, List.append]; rfl) ?_
                intro d0
                repeat' (first | (refine step_skip (by rfl) ?_) | (refine step_idle (by rfl) ?_) | (refine step_read (by rfl) (fun K hK => ?_); (refine quiet_str 29 9 5 _ (by rfl) Try.underlying29 Try.underlying5 Try.underlying9 (some ⟨ly, 0, none⟩) _ 16 (bytesC ⟨t3, b3, tp3, at3, pm3, ty3⟩) (by rfl) (bytesC_length _).symm (HRy.out.ext (by repeat (first | (with_reducible exact Ext.refl _) | (with_reducible refine Ext.undrew ?_) | (with_reducible refine Ext.grow ?_ _) | (with_reducible refine Ext.drew ?_) | (with_reducible refine Ext.drewN ?_ _) | (with_reducible refine Ext.alloc ?_ _) | (with_reducible assumption) | ((with_reducible refine Ext.setCell ?_ ?_ _); rotate_left; (first | exact Nat.le_refl _ | ((try dsimp only); (try simp only [World.size_alloc, grow_size, World.size_setCell]); omega)))))) (fun h => by have h1 := bytesC_length ⟨t3, b3, tp3, at3, pm3, ty3⟩; rw [h] at h1; cases h1) ?_); refine hK _ ?_; clear hK K; simp only [Act.put, List.setIfInBounds_toArray, List.set_cons_zero, List.set_cons_succ]) | (refine step_read (by rfl) (fun K hK => ?_); (refine quiet_str 29 9 5 _ (by rfl) Try.underlying29 Try.underlying5 Try.underlying9 (some ⟨qp, 0, none⟩) _ 16 (bytesC ⟨t3, b3, tp3, at3, pm3, ty3⟩) (by rfl) (bytesC_length _).symm (HRp.out.ext (by repeat (first | (with_reducible exact Ext.refl _) | (with_reducible refine Ext.undrew ?_) | (with_reducible refine Ext.grow ?_ _) | (with_reducible refine Ext.drew ?_) | (with_reducible refine Ext.drewN ?_ _) | (with_reducible refine Ext.alloc ?_ _) | (with_reducible assumption) | ((with_reducible refine Ext.setCell ?_ ?_ _); rotate_left; (first | exact Nat.le_refl _ | ((try dsimp only); (try simp only [World.size_alloc, grow_size, World.size_setCell]); omega)))))) (fun h => by have h1 := bytesC_length ⟨t3, b3, tp3, at3, pm3, ty3⟩; rw [h] at h1; cases h1) ?_); refine hK _ ?_; clear hK K; simp only [Act.put, List.setIfInBounds_toArray, List.set_cons_zero, List.set_cons_succ]) | (refine step_read (by rfl) (fun K hK => ?_); go_big_quiet_op; refine hK _ ?_; clear hK K) | (refine step_act (by rfl) (fun K hK => ?_); go_wp2_with (first | (go_at_call 33; refine (rcapRight _ _ _ _ _ _ _).mono ?_; rw [HRT.out]; rintro e Wr ⟨rfl, hxr⟩; obtain ⟨dr, rfl⟩ := hxr.grown; clear hxr) | (go_at_call 34; refine (rput_yes t3 b3 tp3 at3 pm3 ty3 _ HRT.out).mono ?_; rintro e Wr ⟨qp, cp, rfl, hp1, hp2, hp3, HRp0, hxr⟩; have HRp := hid HRp0; clear HRp0; obtain ⟨dr, rfl⟩ := hxr.grown; clear hxr)); refine ⟨_, (by repeat (first | (with_reducible exact Ext.refl _) | (with_reducible refine Ext.undrew ?_) | (with_reducible refine Ext.grow ?_ _) | (with_reducible refine Ext.drew ?_) | (with_reducible refine Ext.drewN ?_ _) | (with_reducible refine Ext.alloc ?_ _) | (with_reducible assumption) | ((with_reducible refine Ext.setCell ?_ ?_ _); rotate_left; (first | exact Nat.le_refl _ | ((try dsimp only); (try simp only [World.size_alloc, grow_size, World.size_setCell]); omega))))), Ext.refl _, ?_⟩) | refine step_br ?_ ?_)
                all_goals refine step_nil ?_
                go_wp2
                go_ret
                exact ⟨rfl, hx0.trans (Ext.trans HMy.out.2.1 (by repeat (first | (with_reducible exact Ext.refl _) | (with_reducible refine Ext.undrew ?_) | (with_reducible refine Ext.grow ?_ _) | (with_reducible refine Ext.drew ?_) | (with_reducible refine Ext.drewN ?_ _) | (with_reducible refine Ext.alloc ?_ _) | (with_reducible assumption) | ((with_reducible refine Ext.setCell ?_ ?_ _); rotate_left; (first | exact Nat.le_refl _ | ((try dsimp only); (try simp only [World.size_alloc, grow_size, World.size_setCell]); omega))))))⟩
  · have hli : (1000 : Int) < (m : Int) := by omega
    go_wp2_with (go_at_call 9; refine (great_ A0 cap0 zs0 _ wl0 (HSL.out.ext (hx0.trans HMM.out.2.1))).mono ?_; rintro e w3 ⟨b, rfl, hx3, hgr⟩; rcases b with _ | _)
    all_goals
      go_ret
      exact ⟨rfl, hx0.trans (HMM.out.2.1.trans hx3)⟩
end tagmemBack

end Go.Proofs.Ytgpeabbbeidhpaa
