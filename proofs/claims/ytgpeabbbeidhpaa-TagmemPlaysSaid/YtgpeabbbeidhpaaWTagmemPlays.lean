/- The walk of TagmemPlays. -/
import Derived.Test.YtgpeabbbeidhpaaTagX
import Derived.Deep.DeepCutAuto
import Derived.Deep.CutBlock
namespace Go.Proofs.Ytgpeabbbeidhpaa
set_option linter.unusedSimpArgs false
set_option linter.unusedVariables false
open Go.RowKit

open Go.Deep Go.RowKit
namespace tagmemPlays
set_option maxRecDepth 100000 in
set_option maxHeartbeats 8000000 in
theorem walk (a0 : Int) (A1 : Option Addr) (cap1 : Nat) (zs1 : List TOp) (w : World) (w0 : (Lit.int .i64 a0).wf = true) (wl1 : zs1.length ≤ maxLen) (hs1 : SlAtN w A1 10 (zs1.map TOp.cells)) (wz1 : ∀ z ∈ zs1, z.good w) :
    Calls Try.prog 3 #[.int .i64 a0, .slice A1 zs1.length cap1] w fun e w' => e = .returned (.bool true) ∧ Ext w w' := by
  have HSL := hid hs1
  have HWZ := hid wz1
  clear hs1 wz1
  have hw0 := wf_i64 w0
  clear w0
  by_cases hp40 : 40 < a0
  · go_enter Try.func3, Try.ntmps3
    go_wp2_with (go_at_call 8; refine Calls.mono (head_ _) ?_; rintro e wh ⟨rfl, hxh⟩)
    go_ret
    exact ⟨rfl, hxh⟩
  · by_cases hp1 : a0 < 1
    · go_enter Try.func3, Try.ntmps3
      go_wp2_with (first | (go_at_call 8; refine Calls.mono (head_ _) ?_; rintro e wh ⟨rfl, hxh⟩) | (go_at_call 9; refine (great_ A1 cap1 zs1 _ wl1 (HSL.out.ext hxh)).mono ?_; rintro e w2 ⟨b, rfl, hx2, hgr⟩; rcases b with _ | _) | (go_at_call 10; refine (tnew_no a0 _ (.inl hp1)).mono ?_; rintro e w3 ⟨rfl, rfl⟩) | (go_at_call 11; refine (rmnew_no a0 _ (.inl hp1)).mono ?_; rintro e w3 ⟨rfl, rfl⟩))
      all_goals go_ret
      all_goals exact ⟨rfl, hxh.trans hx2⟩
    · obtain ⟨n, rfl⟩ : ∃ n : Nat, a0 = (n : Int) := ⟨a0.toNat, by omega⟩
      have hn1 : 1 ≤ n := by omega
      have hn40 : n ≤ 40 := by omega
      go_enter Try.func3, Try.ntmps3
      go_upto_region 4 with (first | (go_at_call 8; refine Calls.mono (head_ _) ?_; rintro e wh ⟨rfl, hxh⟩) | (go_at_call 9; refine (great_ A1 cap1 zs1 _ wl1 (HSL.out.ext hxh)).mono ?_; rintro e w2 ⟨b, rfl, hx2, hgr⟩; rcases b with _ | _))
      rotate_left
      · go_ret
        exact ⟨rfl, hxh.trans hx2⟩
      · skip
        have hlen : zs1.length ≤ 200 := by first | exact hgr.out rfl | exact hgr.out trivial | exact hgr.out
        have HXX := hid (hxh.trans hx2)
        clear hxh hx2 hgr
        go_upto_region 5 with (go_at_call 10; refine (hNew n (n : Int) rfl _ hn1 (by omega)).mono ?_; rintro e w3 ⟨q, rfl, g, HM1⟩)
        go_upto_region 6 with (go_at_call 11; refine (rmnew_ n _ hn1 (by omega)).mono ?_; rintro e w4 ⟨r, gb, gt, gp, rfl, HR1, hx4, k1, k2, k3, k4⟩)
        have HPQ : Hid (∃ nb nt, PB w w4 q g r gb gt gp n nb nt (fun _ => 0) (fun _ => false) (fun _ => false)) := hid ⟨256 * n, 16 * n, by
          have h3 := HM1.out
          have e1 := h3.1.ltq
          have e2 := h3.1.ltg
          have e3 := HXX.out.size
          have e4 := h3.2.1.size
          exact ⟨⟨h3.1.ext hx4, HXX.out.trans (h3.2.1.trans hx4), Nat.le_trans e3 h3.2.2.1, Nat.le_trans e3 h3.2.2.2⟩, HR1.out, by unfold Tri; omega, by unfold Tri; omega, by omega, by omega, by omega, by omega⟩⟩
        obtain ⟨nb, nt, hpp⟩ := HPQ.out
        have HPP := hid hpp
        clear HPQ hpp HM1 HR1 hx4 k1 k2 k3 k4 HXX
        go_wp2
        go_loopw [8] (fun i wr => ∃ (k : Nat) (B : Nat → Int) (T D : Nat → Bool), k ≤ zs1.length ∧ i = .int .i64 k ∧ Hid (PB w wr q g r gb gt gp n nb nt B T D)) (fun i _ => zs1.length - (intOf i).toNat)
        case atStart => exact ⟨0, _, _, _, Nat.zero_le _, rfl, HPP⟩
        case round =>
          clear HPP
          obtain ⟨k, B, T, D, hk, rfl, HPr⟩ := hrel
          have hk3 : (0 : Int) ≤ (k : Int) := by omega
          by_cases hlt : k < zs1.length
          · obtain ⟨z, hz⟩ : ∃ z, zs1[k] = z := ⟨_, rfl⟩
            have hzg : Hid (z.good w) := hid (by rw [← hz]; exact HWZ.out _ (List.getElem_mem hlt))
            have HZR := hid hzg.out.2.2.1.2.2.1
            have HZA : Hid (∀ {W : World} {B : Nat → Int} {T D : Nat → Bool}, PB w W q g r gb gt gp n nb nt B T D → 0 < z.bl.length → ∀ b o, z.A = some ⟨b, o, none⟩ → ¬ b = g ∧ ¬ Tri gb gt gp b) := hid (fun hM h0 b o e => by
              obtain ⟨b', o', e', hl', _⟩ := hzg.out.2.2.1.2.2.1 h0
              rw [e] at e'
              cases e'
              have := hM.h1.2.2.1
              obtain ⟨k1, k2, k3⟩ := hM.a4
              unfold Tri
              omega)
            obtain ⟨b0, o, rfl, hb0, hop⟩ := TOp.facts HSL.out hlt z hz
            have HOP := hid (rg_ext hop hb0 HPr.out.h1.2.1)
            have hb1 : b0 < wr.heap.size := Nat.lt_of_lt_of_le hb0 HPr.out.h1.2.1.size
            have hk1 : (k : Int) < (zs1.length : Int) := by omega
            clear hop hz
            have c0 : wr.cell? ⟨b0, o + k * 10, none⟩ = some (.int .i64 z.what) := HOP.out 0 _ rfl
            have c1 : wr.cell? ⟨b0, o + k * 10 + 1, none⟩ = some (.int .i64 z.at_) := HOP.out 1 _ rfl
            have c2 : wr.cell? ⟨b0, o + k * 10 + 2, none⟩ = some (.slice z.A z.bl.length z.ca) := HOP.out 2 _ rfl
            have c3 : wr.cell? ⟨b0, o + k * 10 + 3, none⟩ = some (.bool z.c.tag) := HOP.out 3 _ rfl
            have c4 : wr.cell? ⟨b0, o + k * 10 + 4, none⟩ = some (.int .i64 z.c.base) := HOP.out 4 _ rfl
            have c5 : wr.cell? ⟨b0, o + k * 10 + 5, none⟩ = some (.int .i64 z.c.top) := HOP.out 5 _ rfl
            have c6 : wr.cell? ⟨b0, o + k * 10 + 6, none⟩ = some (.int .i64 z.c.at_) := HOP.out 6 _ rfl
            have c7 : wr.cell? ⟨b0, o + k * 10 + 7, none⟩ = some (.int .i64 z.c.perms) := HOP.out 7 _ rfl
            have c8 : wr.cell? ⟨b0, o + k * 10 + 8, none⟩ = some (.int .i64 z.c.type) := HOP.out 8 _ rfl
            have c9 : wr.cell? ⟨b0, o + k * 10 + 9, none⟩ = some (.int .i64 z.n) := HOP.out 9 _ rfl
            go_upto_region 14 with (fail)
            refine wp_gen (fun W => Hid (PB w W q g r gb gt gp n nb nt B T D) ∧ Hid (CapB W wr.heap.size z.cells) ∧ Hid (¬ wr.heap.size = g ∧ ¬ Tri gb gt gp wr.heap.size)) ⟨hid (HPr.out.ext (by repeat (first | (with_reducible exact Ext.refl _) | (with_reducible refine Ext.undrew ?_) | (with_reducible refine Ext.grow ?_ _) | (with_reducible refine Ext.drew ?_) | (with_reducible refine Ext.drewN ?_ _) | (with_reducible refine Ext.alloc ?_ _) | (with_reducible assumption) | ((with_reducible refine Ext.setCell ?_ ?_ _); rotate_left; (first | exact Nat.le_refl _ | ((try dsimp only); (try simp only [World.size_alloc, grow_size, World.size_setCell]); omega)))))), hid (CapB.new wr _ _), hid (by have := HPr.out.h1.1.ltg; have := HPr.out.h2.lb; have := HPr.out.h2.lt; have := HPr.out.h2.lp; unfold Tri; omega)⟩ ?_
            clear c0 c1 c2 c3 c4 c5 c6 c7 c8 c9 hb1 HOP
            rintro W2 ⟨HP2, HC2, HNG⟩
            generalize wr.heap.size = ob at HC2 HNG ⊢
            clear HPr
            have hab := wf_i64 hzg.out.2.1
            have han := wf_i64 hzg.out.2.2.2.2
            obtain ⟨xa, hxa⟩ : ∃ x, z.at_ = x := ⟨_, rfl⟩
            obtain ⟨xn, hxn⟩ : ∃ x, z.n = x := ⟨_, rfl⟩
            obtain ⟨wh, hwh⟩ : ∃ x, z.what = x := ⟨_, rfl⟩
            have HCx : Hid (CapB W2 ob [.int .i64 wh, .int .i64 xa, .slice z.A z.bl.length z.ca, .bool z.c.tag, .int .i64 z.c.base, .int .i64 z.c.top, .int .i64 z.c.at_, .int .i64 z.c.perms, .int .i64 z.c.type, .int .i64 xn]) := hid (by rw [← hxa, ← hwh, ← hxn]; exact HC2.out)
            rw [hxa] at hab
            rw [hxn] at han
            clear hxa hwh hxn HC2
            have HC2 := HCx
            clear HCx
            have d0 : World.cell? _ ⟨ob, 0, none⟩ = some (.int .i64 wh) := HC2.out.2 0 _ rfl
            have d1 : World.cell? _ ⟨ob, 1, none⟩ = some (.int .i64 xa) := HC2.out.2 1 _ rfl
            have d2 : World.cell? _ ⟨ob, 2, none⟩ = some (.slice z.A z.bl.length z.ca) := HC2.out.2 2 _ rfl
            have d3 : World.cell? _ ⟨ob, 3, none⟩ = some (.bool z.c.tag) := HC2.out.2 3 _ rfl
            have d4 : World.cell? _ ⟨ob, 4, none⟩ = some (.int .i64 z.c.base) := HC2.out.2 4 _ rfl
            have d5 : World.cell? _ ⟨ob, 5, none⟩ = some (.int .i64 z.c.top) := HC2.out.2 5 _ rfl
            have d6 : World.cell? _ ⟨ob, 6, none⟩ = some (.int .i64 z.c.at_) := HC2.out.2 6 _ rfl
            have d7 : World.cell? _ ⟨ob, 7, none⟩ = some (.int .i64 z.c.perms) := HC2.out.2 7 _ rfl
            have d8 : World.cell? _ ⟨ob, 8, none⟩ = some (.int .i64 z.c.type) := HC2.out.2 8 _ rfl
            have d9 : World.cell? _ ⟨ob, 9, none⟩ = some (.int .i64 xn) := HC2.out.2 9 _ rfl
            have dl := HC2.out.1
            go_upto_block 2 with (fail)
            go_cut [10, 11] (fun s10 s11 wx => ∃ (b : Bool) (B : Nat → Int) (T D : Nat → Bool), s10 = .bool b ∧ s11 = .bool b ∧ Hid (PB w wx q g r gb gt gp n nb nt B T D) ∧ Hid (CapB wx ob [.int .i64 wh, .int .i64 xa, .slice z.A z.bl.length z.ca, .bool z.c.tag, .int .i64 z.c.base, .int .i64 z.c.top, .int .i64 z.c.at_, .int .i64 z.c.perms, .int .i64 z.c.type, .int .i64 xn]))
            case first =>
              by_cases h2 : wh = 2
              · subst h2
                go_wp2_with (first | (go_at_call 12; refine (fSc w _ q g n B T D HP2.out.h1 xa z.c.tag z.c.base z.c.top z.c.at_ z.c.perms z.c.type).mono ?_; rintro e W3 ⟨rfl, HM3, HO3⟩; have HCb := hid (HC2.out.only HO3.out HNG.out.1); have f1 : World.cell? _ ⟨ob, 1, none⟩ = some (.int .i64 xa) := HCb.out.2 1 _ rfl; have f3 : World.cell? _ ⟨ob, 3, none⟩ = some (.bool z.c.tag) := HCb.out.2 3 _ rfl; have f4 : World.cell? _ ⟨ob, 4, none⟩ = some (.int .i64 z.c.base) := HCb.out.2 4 _ rfl; have f5 : World.cell? _ ⟨ob, 5, none⟩ = some (.int .i64 z.c.top) := HCb.out.2 5 _ rfl; have f6 : World.cell? _ ⟨ob, 6, none⟩ = some (.int .i64 z.c.at_) := HCb.out.2 6 _ rfl; have f7 : World.cell? _ ⟨ob, 7, none⟩ = some (.int .i64 z.c.perms) := HCb.out.2 7 _ rfl; have f8 : World.cell? _ ⟨ob, 8, none⟩ = some (.int .i64 z.c.type) := HCb.out.2 8 _ rfl; have fl := HCb.out.1) | (go_at_call 13; refine (rSc _ r gb gt gp n nb nt B T D (HP2.out.mid HO3.out) xa z.c.tag z.c.base z.c.top z.c.at_ z.c.perms z.c.type).mono ?_; rintro e W4 ⟨rfl, HR4, HO4⟩))
                go_meet
                exact ⟨_, _, _, _, rfl, rfl, hid (HP2.out.both HM3.out HR4.out HO4.out), hid (HCb.out.only HO4.out HNG.out.2)⟩
              · by_cases h3 : wh = 3
                · subst h3
                  go_wp2_with (first | (go_at_call 12; refine (fSc w _ q g n B T D HP2.out.h1 xa z.c.tag z.c.base z.c.top z.c.at_ z.c.perms z.c.type).mono ?_; rintro e W3 ⟨rfl, HM3, HO3⟩; have HCb := hid (HC2.out.only HO3.out HNG.out.1); have f1 : World.cell? _ ⟨ob, 1, none⟩ = some (.int .i64 xa) := HCb.out.2 1 _ rfl; have f3 : World.cell? _ ⟨ob, 3, none⟩ = some (.bool z.c.tag) := HCb.out.2 3 _ rfl; have f4 : World.cell? _ ⟨ob, 4, none⟩ = some (.int .i64 z.c.base) := HCb.out.2 4 _ rfl; have f5 : World.cell? _ ⟨ob, 5, none⟩ = some (.int .i64 z.c.top) := HCb.out.2 5 _ rfl; have f6 : World.cell? _ ⟨ob, 6, none⟩ = some (.int .i64 z.c.at_) := HCb.out.2 6 _ rfl; have f7 : World.cell? _ ⟨ob, 7, none⟩ = some (.int .i64 z.c.perms) := HCb.out.2 7 _ rfl; have f8 : World.cell? _ ⟨ob, 8, none⟩ = some (.int .i64 z.c.type) := HCb.out.2 8 _ rfl; have fl := HCb.out.1) | (go_at_call 13; refine (rSc _ r gb gt gp n nb nt B T D (HP2.out.mid HO3.out) xa z.c.tag z.c.base z.c.top z.c.at_ z.c.perms z.c.type).mono ?_; rintro e W4 ⟨rfl, HR4, HO4⟩))
                  go_meet
                  exact ⟨_, _, _, _, rfl, rfl, hid (HP2.out.both HM3.out HR4.out HO4.out), hid (HCb.out.only HO4.out HNG.out.2)⟩
                · by_cases h4 : wh = 4
                  · subst h4
                    go_wp2_with (first | (go_at_call 14; refine (fStrip w _ q g n B T D HP2.out.h1 xa).mono ?_; rintro e W3 ⟨rfl, HM3, HO3⟩; have HCb := hid (HC2.out.only HO3.out HNG.out.1); have f1 : World.cell? _ ⟨ob, 1, none⟩ = some (.int .i64 xa) := HCb.out.2 1 _ rfl; have fl := HCb.out.1) | (go_at_call 15; refine (rStrip _ r gb gt gp n nb nt B T D (HP2.out.mid HO3.out) xa).mono ?_; rintro e W4 ⟨rfl, HR4, HO4⟩))
                    go_meet
                    exact ⟨_, _, _, _, rfl, rfl, hid (HP2.out.both HM3.out HR4.out HO4.out), hid (HCb.out.only HO4.out HNG.out.2)⟩
                  · by_cases h5 : wh = 5
                    · subst h5
                      go_wp2_with (first | (go_at_call 16; refine (fClean w _ q g n B T D HP2.out.h1 xa).mono ?_; rintro e W3 ⟨rfl, HM3, HO3⟩; have HCb := hid (HC2.out.only HO3.out HNG.out.1); have f1 : World.cell? _ ⟨ob, 1, none⟩ = some (.int .i64 xa) := HCb.out.2 1 _ rfl; have fl := HCb.out.1) | (go_at_call 17; refine (rClean _ r gb gt gp n nb nt B T D (HP2.out.mid HO3.out) xa).mono ?_; rintro e W4 ⟨rfl, HR4, HO4⟩))
                      go_meet
                      exact ⟨_, _, _, _, rfl, rfl, hid (HP2.out.both HM3.out HR4.out HO4.out), hid (HCb.out.only HO4.out HNG.out.2)⟩
                    · by_cases h6 : wh = 6
                      · subst h6
                        by_cases hs : spanP n xa xn
                        · obtain ⟨l0, l1, l2, l3⟩ := id hs
                          obtain ⟨a, ha⟩ : ∃ a : Nat, xa = (a : Int) := ⟨xa.toNat, by omega⟩
                          obtain ⟨m, hm⟩ : ∃ m : Nat, xn = (m : Int) := ⟨xn.toNat, by omega⟩
                          subst ha
                          subst hm
                          have HFIT : Hid (a + m ≤ 256 * n ∧ m ≤ 900000) := hid ⟨by omega, by omega⟩
                          clear l0 l1 l2 l3 hs
                          obtain ⟨lB, hlB⟩ : ∃ l, bytesAt B a m = l := ⟨_, rfl⟩
                          have HLB := hid hlB
                          have HLL : Hid (lB.length = m) := hid (by rw [← hlB]; exact bytesAt_length _ _ _)
                          clear hlB
                          go_upto_region 30 with (first | (go_at_call 18; refine (hLoad w _ q g n B T D HP2.out.h1 (a : Int) (m : Int) a m rfl rfl HFIT.out.1).mono ?_; rintro e W3 ⟨lb3, rfl, HR3, HM3, HX3, HF3⟩; have HCb := hid (HC2.out.ext HX3.out); have f1 : World.cell? _ ⟨ob, 1, none⟩ = some (.int .i64 (a : Int)) := HCb.out.2 1 _ rfl; have f9 : World.cell? _ ⟨ob, 9, none⟩ = some (.int .i64 (m : Int)) := HCb.out.2 9 _ rfl; have fl := HCb.out.1) | (go_at_call 19; refine (rLd _ r gb gt gp n nb nt B T D (HP2.out.ext HX3.out).h2 (a : Int) (m : Int) a m rfl rfl HFIT.out.1 HFIT.out.2).mono ?_; rintro e W4 ⟨A4, ca4, rfl, HR4, HX4, HF4⟩))
                          rw [HLB.out] at HR3 HR4
                          have hs1 := run_strA (P := Try.prog) W4 29 9 5 Try.underlying29 Try.underlying5 Try.underlying9 (some ⟨lb3, 0, none⟩) m lB m HLL.out (HR3.out.ext HX4.out) (.inr ⟨_, rfl⟩)
                          have hs2 := run_strA (P := Try.prog) W4 29 9 5 Try.underlying29 Try.underlying5 Try.underlying9 A4 ca4 lB m HLL.out HR4.out (by rcases HF4.out with c | ⟨gg, c, _⟩; exact .inl c; exact .inr ⟨gg, c⟩)
                          go_wp2
                          go_meet
                          exact ⟨_, _, _, _, (by first | rfl | simp), rfl, hid ((HP2.out.ext HX3.out).ext HX4.out), hid (HCb.out.ext HX4.out)⟩
                        · go_upto_region 30 with (first | (go_at_call 18; refine (tload_no q g n B T D _ HP2.out.h1.1 xa xn hs).mono ?_; rintro e W3 ⟨rfl, rfl⟩) | (go_at_call 19; refine (rmload_no r gb gt gp n nb nt B T D _ HP2.out.h2 xa xn hs han).mono ?_; rintro e W4 ⟨rfl, rfl⟩))
                          have HSN := hid hs
                          clear hs
                          have hs1 := run_strA (P := Try.prog) W2 29 9 5 Try.underlying29 Try.underlying5 Try.underlying9 none 0 [] 0 rfl (fun h => absurd h (by simp)) (.inl ⟨rfl, rfl⟩)
                          go_wp2
                          go_meet
                          exact ⟨_, _, _, _, (by first | rfl | simp), rfl, HP2, HC2⟩
                      · by_cases h7 : wh = 7
                        · subst h7
                          by_cases hs : placeP n xa
                          · obtain ⟨kk, hkk, hkx, _, _⟩ := placeP_k hs
                            obtain ⟨c, hcc⟩ : ∃ c, getL (bytesAt B (16 * kk) 16) (T kk) = c := ⟨_, rfl⟩
                            have HCC := hid hcc
                            have HKX := hid hkx
                            clear hcc hkx hs
                            go_upto_region 33 with (go_at_call 20; refine (fLc w _ q g n B T D HP2.out.h1 xa kk hkk HKX.out c HCC.out).mono ?_; rintro e W3 ⟨rfl, HM3, HX3⟩)
                            refine wp_gen (fun W => Hid (PB w W q g r gb gt gp n nb nt B T D) ∧ Hid (CapB W ob [.int .i64 7, .int .i64 xa, .slice z.A z.bl.length z.ca, .bool z.c.tag, .int .i64 z.c.base, .int .i64 z.c.top, .int .i64 z.c.at_, .int .i64 z.c.perms, .int .i64 z.c.type, .int .i64 xn]) ∧ Hid (CapB W W3.heap.size [.bool (c).tag, .int .i64 (c).base, .int .i64 (c).top, .int .i64 (c).at_, .int .i64 (c).perms, .int .i64 (c).type])) ⟨hid ((HP2.out.ext HX3.out).ext (by repeat (first | (with_reducible exact Ext.refl _) | (with_reducible refine Ext.undrew ?_) | (with_reducible refine Ext.grow ?_ _) | (with_reducible refine Ext.drew ?_) | (with_reducible refine Ext.drewN ?_ _) | (with_reducible refine Ext.alloc ?_ _) | (with_reducible assumption) | ((with_reducible refine Ext.setCell ?_ ?_ _); rotate_left; (first | exact Nat.le_refl _ | ((try dsimp only); (try simp only [World.size_alloc, grow_size, World.size_setCell]); omega)))))), hid ((HC2.out.ext HX3.out).ext (by repeat (first | (with_reducible exact Ext.refl _) | (with_reducible refine Ext.undrew ?_) | (with_reducible refine Ext.grow ?_ _) | (with_reducible refine Ext.drew ?_) | (with_reducible refine Ext.drewN ?_ _) | (with_reducible refine Ext.alloc ?_ _) | (with_reducible assumption) | ((with_reducible refine Ext.setCell ?_ ?_ _); rotate_left; (first | exact Nat.le_refl _ | ((try dsimp only); (try simp only [World.size_alloc, grow_size, World.size_setCell]); omega)))))), hid (CapB.new W3 _ _)⟩ ?_
                            rintro W4 ⟨HP4, HC4, HY4⟩
                            generalize W3.heap.size = yb at HY4 ⊢
                            have f1 : World.cell? _ ⟨ob, 1, none⟩ = some (.int .i64 xa) := HC4.out.2 1 _ rfl
                            have fl := HC4.out.1
                            go_upto_region 34 with (go_at_call 21; refine (rLc _ r gb gt gp n nb nt B T D HP4.out.h2 xa kk hkk HKX.out c HCC.out).mono ?_; rintro e W5 ⟨rfl, hx5⟩)
                            refine wp_gen (fun W => Hid (PB w W q g r gb gt gp n nb nt B T D) ∧ Hid (CapB W ob [.int .i64 7, .int .i64 xa, .slice z.A z.bl.length z.ca, .bool z.c.tag, .int .i64 z.c.base, .int .i64 z.c.top, .int .i64 z.c.at_, .int .i64 z.c.perms, .int .i64 z.c.type, .int .i64 xn]) ∧ Hid (CapB W yb [.bool (c).tag, .int .i64 (c).base, .int .i64 (c).top, .int .i64 (c).at_, .int .i64 (c).perms, .int .i64 (c).type]) ∧ Hid (CapB W W5.heap.size [.bool (c).tag, .int .i64 (c).base, .int .i64 (c).top, .int .i64 (c).at_, .int .i64 (c).perms, .int .i64 (c).type])) ⟨hid ((HP4.out.ext hx5).ext (by repeat (first | (with_reducible exact Ext.refl _) | (with_reducible refine Ext.undrew ?_) | (with_reducible refine Ext.grow ?_ _) | (with_reducible refine Ext.drew ?_) | (with_reducible refine Ext.drewN ?_ _) | (with_reducible refine Ext.alloc ?_ _) | (with_reducible assumption) | ((with_reducible refine Ext.setCell ?_ ?_ _); rotate_left; (first | exact Nat.le_refl _ | ((try dsimp only); (try simp only [World.size_alloc, grow_size, World.size_setCell]); omega)))))), hid ((HC4.out.ext hx5).ext (by repeat (first | (with_reducible exact Ext.refl _) | (with_reducible refine Ext.undrew ?_) | (with_reducible refine Ext.grow ?_ _) | (with_reducible refine Ext.drew ?_) | (with_reducible refine Ext.drewN ?_ _) | (with_reducible refine Ext.alloc ?_ _) | (with_reducible assumption) | ((with_reducible refine Ext.setCell ?_ ?_ _); rotate_left; (first | exact Nat.le_refl _ | ((try dsimp only); (try simp only [World.size_alloc, grow_size, World.size_setCell]); omega)))))), hid ((HY4.out.ext hx5).ext (by repeat (first | (with_reducible exact Ext.refl _) | (with_reducible refine Ext.undrew ?_) | (with_reducible refine Ext.grow ?_ _) | (with_reducible refine Ext.drew ?_) | (with_reducible refine Ext.drewN ?_ _) | (with_reducible refine Ext.alloc ?_ _) | (with_reducible assumption) | ((with_reducible refine Ext.setCell ?_ ?_ _); rotate_left; (first | exact Nat.le_refl _ | ((try dsimp only); (try simp only [World.size_alloc, grow_size, World.size_setCell]); omega)))))), hid (CapB.new W5 _ _)⟩ ?_
                            rintro W6 ⟨HP6, HC6, HY6, HZ6⟩
                            generalize W5.heap.size = zb at HZ6 ⊢
                            clear f1 fl
                            have y0 : World.cell? W6 ⟨yb, 0, none⟩ = some (.bool (c).tag) := HY6.out.2 0 _ rfl
                            have y1 : World.cell? W6 ⟨yb, 1, none⟩ = some (.int .i64 (c).base) := HY6.out.2 1 _ rfl
                            have y2 : World.cell? W6 ⟨yb, 2, none⟩ = some (.int .i64 (c).top) := HY6.out.2 2 _ rfl
                            have y3 : World.cell? W6 ⟨yb, 3, none⟩ = some (.int .i64 (c).at_) := HY6.out.2 3 _ rfl
                            have y4 : World.cell? W6 ⟨yb, 4, none⟩ = some (.int .i64 (c).perms) := HY6.out.2 4 _ rfl
                            have y5 : World.cell? W6 ⟨yb, 5, none⟩ = some (.int .i64 (c).type) := HY6.out.2 5 _ rfl
                            have yl := HY6.out.1
                            have zc0 : World.cell? W6 ⟨zb, 0, none⟩ = some (.bool (c).tag) := HZ6.out.2 0 _ rfl
                            have zc1 : World.cell? W6 ⟨zb, 1, none⟩ = some (.int .i64 (c).base) := HZ6.out.2 1 _ rfl
                            have zc2 : World.cell? W6 ⟨zb, 2, none⟩ = some (.int .i64 (c).top) := HZ6.out.2 2 _ rfl
                            have zc3 : World.cell? W6 ⟨zb, 3, none⟩ = some (.int .i64 (c).at_) := HZ6.out.2 3 _ rfl
                            have zc4 : World.cell? W6 ⟨zb, 4, none⟩ = some (.int .i64 (c).perms) := HZ6.out.2 4 _ rfl
                            have zc5 : World.cell? W6 ⟨zb, 5, none⟩ = some (.int .i64 (c).type) := HZ6.out.2 5 _ rfl
                            have zcl := HZ6.out.1
                            go_wp2
                            go_meet
                            exact ⟨_, _, _, _, (by first | rfl | simp), rfl, HP6, HC6⟩
                          · go_upto_region 33 with (go_at_call 20; refine (tlc_no q g n B T D _ HP2.out.h1.1 xa hs).mono ?_; rintro e W3 ⟨rfl, hx3⟩; have HX3 := hid hx3; clear hx3)
                            refine wp_gen (fun W => Hid (PB w W q g r gb gt gp n nb nt B T D) ∧ Hid (CapB W ob [.int .i64 7, .int .i64 xa, .slice z.A z.bl.length z.ca, .bool z.c.tag, .int .i64 z.c.base, .int .i64 z.c.top, .int .i64 z.c.at_, .int .i64 z.c.perms, .int .i64 z.c.type, .int .i64 xn]) ∧ Hid (CapB W W3.heap.size [.bool false, .int .i64 0, .int .i64 0, .int .i64 0, .int .i64 0, .int .i64 0])) ⟨hid ((HP2.out.ext HX3.out).ext (by repeat (first | (with_reducible exact Ext.refl _) | (with_reducible refine Ext.undrew ?_) | (with_reducible refine Ext.grow ?_ _) | (with_reducible refine Ext.drew ?_) | (with_reducible refine Ext.drewN ?_ _) | (with_reducible refine Ext.alloc ?_ _) | (with_reducible assumption) | ((with_reducible refine Ext.setCell ?_ ?_ _); rotate_left; (first | exact Nat.le_refl _ | ((try dsimp only); (try simp only [World.size_alloc, grow_size, World.size_setCell]); omega)))))), hid ((HC2.out.ext HX3.out).ext (by repeat (first | (with_reducible exact Ext.refl _) | (with_reducible refine Ext.undrew ?_) | (with_reducible refine Ext.grow ?_ _) | (with_reducible refine Ext.drew ?_) | (with_reducible refine Ext.drewN ?_ _) | (with_reducible refine Ext.alloc ?_ _) | (with_reducible assumption) | ((with_reducible refine Ext.setCell ?_ ?_ _); rotate_left; (first | exact Nat.le_refl _ | ((try dsimp only); (try simp only [World.size_alloc, grow_size, World.size_setCell]); omega)))))), hid (CapB.new W3 _ _)⟩ ?_
                            rintro W4 ⟨HP4, HC4, HY4⟩
                            generalize W3.heap.size = yb at HY4 ⊢
                            have f1 : World.cell? _ ⟨ob, 1, none⟩ = some (.int .i64 xa) := HC4.out.2 1 _ rfl
                            have fl := HC4.out.1
                            go_upto_region 34 with (go_at_call 21; refine (rmlc_no r gb gt gp n nb nt B T D _ HP4.out.h2 xa hs).mono ?_; rintro e W5 ⟨rfl, hx5⟩)
                            refine wp_gen (fun W => Hid (PB w W q g r gb gt gp n nb nt B T D) ∧ Hid (CapB W ob [.int .i64 7, .int .i64 xa, .slice z.A z.bl.length z.ca, .bool z.c.tag, .int .i64 z.c.base, .int .i64 z.c.top, .int .i64 z.c.at_, .int .i64 z.c.perms, .int .i64 z.c.type, .int .i64 xn]) ∧ Hid (CapB W yb [.bool false, .int .i64 0, .int .i64 0, .int .i64 0, .int .i64 0, .int .i64 0]) ∧ Hid (CapB W W5.heap.size [.bool false, .int .i64 0, .int .i64 0, .int .i64 0, .int .i64 0, .int .i64 0])) ⟨hid ((HP4.out.ext hx5).ext (by repeat (first | (with_reducible exact Ext.refl _) | (with_reducible refine Ext.undrew ?_) | (with_reducible refine Ext.grow ?_ _) | (with_reducible refine Ext.drew ?_) | (with_reducible refine Ext.drewN ?_ _) | (with_reducible refine Ext.alloc ?_ _) | (with_reducible assumption) | ((with_reducible refine Ext.setCell ?_ ?_ _); rotate_left; (first | exact Nat.le_refl _ | ((try dsimp only); (try simp only [World.size_alloc, grow_size, World.size_setCell]); omega)))))), hid ((HC4.out.ext hx5).ext (by repeat (first | (with_reducible exact Ext.refl _) | (with_reducible refine Ext.undrew ?_) | (with_reducible refine Ext.grow ?_ _) | (with_reducible refine Ext.drew ?_) | (with_reducible refine Ext.drewN ?_ _) | (with_reducible refine Ext.alloc ?_ _) | (with_reducible assumption) | ((with_reducible refine Ext.setCell ?_ ?_ _); rotate_left; (first | exact Nat.le_refl _ | ((try dsimp only); (try simp only [World.size_alloc, grow_size, World.size_setCell]); omega)))))), hid ((HY4.out.ext hx5).ext (by repeat (first | (with_reducible exact Ext.refl _) | (with_reducible refine Ext.undrew ?_) | (with_reducible refine Ext.grow ?_ _) | (with_reducible refine Ext.drew ?_) | (with_reducible refine Ext.drewN ?_ _) | (with_reducible refine Ext.alloc ?_ _) | (with_reducible assumption) | ((with_reducible refine Ext.setCell ?_ ?_ _); rotate_left; (first | exact Nat.le_refl _ | ((try dsimp only); (try simp only [World.size_alloc, grow_size, World.size_setCell]); omega)))))), hid (CapB.new W5 _ _)⟩ ?_
                            rintro W6 ⟨HP6, HC6, HY6, HZ6⟩
                            generalize W5.heap.size = zb at HZ6 ⊢
                            clear f1 fl
                            have y0 : World.cell? W6 ⟨yb, 0, none⟩ = some (.bool false) := HY6.out.2 0 _ rfl
                            have y1 : World.cell? W6 ⟨yb, 1, none⟩ = some (.int .i64 0) := HY6.out.2 1 _ rfl
                            have y2 : World.cell? W6 ⟨yb, 2, none⟩ = some (.int .i64 0) := HY6.out.2 2 _ rfl
                            have y3 : World.cell? W6 ⟨yb, 3, none⟩ = some (.int .i64 0) := HY6.out.2 3 _ rfl
                            have y4 : World.cell? W6 ⟨yb, 4, none⟩ = some (.int .i64 0) := HY6.out.2 4 _ rfl
                            have y5 : World.cell? W6 ⟨yb, 5, none⟩ = some (.int .i64 0) := HY6.out.2 5 _ rfl
                            have yl := HY6.out.1
                            have zc0 : World.cell? W6 ⟨zb, 0, none⟩ = some (.bool false) := HZ6.out.2 0 _ rfl
                            have zc1 : World.cell? W6 ⟨zb, 1, none⟩ = some (.int .i64 0) := HZ6.out.2 1 _ rfl
                            have zc2 : World.cell? W6 ⟨zb, 2, none⟩ = some (.int .i64 0) := HZ6.out.2 2 _ rfl
                            have zc3 : World.cell? W6 ⟨zb, 3, none⟩ = some (.int .i64 0) := HZ6.out.2 3 _ rfl
                            have zc4 : World.cell? W6 ⟨zb, 4, none⟩ = some (.int .i64 0) := HZ6.out.2 4 _ rfl
                            have zc5 : World.cell? W6 ⟨zb, 5, none⟩ = some (.int .i64 0) := HZ6.out.2 5 _ rfl
                            have zcl := HZ6.out.1
                            go_wp2
                            go_meet
                            exact ⟨_, _, _, _, (by first | rfl | simp), rfl, HP6, HC6⟩
                        · skip
                          go_wp2_with (first | (go_at_call 22; refine (fSto w _ q g n B T D HP2.out.h1 xa z.A z.bl.length z.ca z.bl rfl (HZR.out.ext HP2.out.h1.2.1) hzg.out.2.2.1.2.2.2 hzg.out.2.2.1.1 (fun h0 b o e => (HZA.out HP2.out h0 b o e).1)).mono ?_; rintro e W3 ⟨rfl, HM3, HO3⟩; have HCb := hid (HC2.out.only HO3.out HNG.out.1); have f1 : World.cell? _ ⟨ob, 1, none⟩ = some (.int .i64 xa) := HCb.out.2 1 _ rfl; have f2 : World.cell? _ ⟨ob, 2, none⟩ = some (.slice z.A z.bl.length z.ca) := HCb.out.2 2 _ rfl; have fl := HCb.out.1) | (go_at_call 23; refine (rSto _ r gb gt gp n nb nt B T D (HP2.out.mid HO3.out) xa z.A z.bl.length z.ca z.bl rfl ((HZR.out.ext HP2.out.h1.2.1).onlyP HO3.out (fun h0 b o e => (HZA.out HP2.out h0 b o e).1)) hzg.out.2.2.1.2.2.2 hzg.out.2.2.1.1 (fun h0 b o e => (HZA.out HP2.out h0 b o e).2)).mono ?_; rintro e W4 ⟨rfl, HR4, HO4⟩))
                          go_meet
                          exact ⟨_, _, _, _, rfl, rfl, hid (HP2.out.both HM3.out HR4.out HO4.out), hid (HCb.out.only HO4.out HNG.out.2)⟩
            case rest =>
              clear HP2 HC2 hab han d0 d1 d2 d3 d4 d5 d6 d7 d8 d9 dl
              obtain ⟨bb, B, T, D, rfl, rfl, HPw, HCw⟩ := hcut
              obtain ⟨tl, htl⟩ : ∃ l, (whichN T (16 * n)).map (16 * ·) = l := ⟨_, rfl⟩
              have HTL := hid htl
              have HTLR : Hid ((whichN T nt).map (16 * ·) = tl) := hid (by rw [HPw.out.h2.et]; exact htl)
              obtain ⟨kt, hkt0⟩ : ∃ k, tl.length = k := ⟨_, rfl⟩
              have HKT := hid hkt0
              have hkt8 : kt ≤ 16777216 := by have h1 := whichN_len T (16 * n); have h2 := HPw.out.h2.bd; rw [← hkt0, ← htl, List.length_map]; omega
              clear htl hkt0
              obtain ⟨dl, hdl⟩ : ∃ l, whichN D n = l := ⟨_, rfl⟩
              have HDL := hid hdl
              obtain ⟨kd, hkd0⟩ : ∃ k, dl.length = k := ⟨_, rfl⟩
              have HKD := hid hkd0
              have hkd8 : kd ≤ 16777216 := by have h1 := whichN_len D n; have h2 := HPw.out.h2.bd; rw [← hkd0, ← hdl]; omega
              clear hdl hkd0
              obtain ⟨tv, htv⟩ : ∃ b, tagAt n T xa = b := ⟨_, rfl⟩
              have HTV := hid htv
              clear htv
              go_upto_region 35 with (fail)
              refine wp_region_step (.rd 0 (.rd 1 (.rd 2 (.rd 3 (.rd 4 (.rd 6 (.ac 5 (.ac 7 (.ac 8 (.rd 9 (.rd 10 (.rd 11 (.rd 12 (.rd 14 (.ac 13 (.ac 15 (.ac 16 (.rd 17 (.rd 18 (.rd 19 (.rd 20 (.rd 21 (.rd 22 (.rd 24 (.rd 25 (.rd 26 (.ac 23 (.ac 27 (.rd 28 (.rd 29 .done)))))))))))))))))))))))))))))) (by kernel_rfl) (by kernel_rfl) (fun _ _ d _ _ h => by cases d <;> exact h) (by simp only [Ord.map, nthOp, List.append]; rfl) ?_
              intro d0
              repeat' (first | (refine step_read (by rfl) (fun K hK => ?_); go_big_quiet_op; refine hK _ ?_; clear hK K) | (refine step_act (by rfl) (fun K hK => ?_); go_wp2_with (first | (go_at_call 25; refine (hTags w _ q g n B T D (HPw.out.ext (by repeat (first | (with_reducible exact Ext.refl _) | (with_reducible refine Ext.undrew ?_) | (with_reducible refine Ext.grow ?_ _) | (with_reducible refine Ext.drew ?_) | (with_reducible refine Ext.drewN ?_ _) | (with_reducible refine Ext.alloc ?_ _) | (with_reducible assumption) | ((with_reducible refine Ext.setCell ?_ ?_ _); rotate_left; (first | exact Nat.le_refl _ | ((try dsimp only); (try simp only [World.size_alloc, grow_size, World.size_setCell]); omega)))))).h1 tl kt HTL.out HKT.out).mono ?_; rintro e Wa ⟨Aa, caa, rfl, HRa, HMa, HXa, _⟩; have hxa := HXa.out; have HPa := hid ((HPw.out.ext (by repeat (first | (with_reducible exact Ext.refl _) | (with_reducible refine Ext.undrew ?_) | (with_reducible refine Ext.grow ?_ _) | (with_reducible refine Ext.drew ?_) | (with_reducible refine Ext.drewN ?_ _) | (with_reducible refine Ext.alloc ?_ _) | (with_reducible assumption) | ((with_reducible refine Ext.setCell ?_ ?_ _); rotate_left; (first | exact Nat.le_refl _ | ((try dsimp only); (try simp only [World.size_alloc, grow_size, World.size_setCell]); omega))))) : PB w _ q g r gb gt gp n nb nt B T D).ext hxa); have HCa := hid ((HCw.out.ext (by repeat (first | (with_reducible exact Ext.refl _) | (with_reducible refine Ext.undrew ?_) | (with_reducible refine Ext.grow ?_ _) | (with_reducible refine Ext.drew ?_) | (with_reducible refine Ext.drewN ?_ _) | (with_reducible refine Ext.alloc ?_ _) | (with_reducible assumption) | ((with_reducible refine Ext.setCell ?_ ?_ _); rotate_left; (first | exact Nat.le_refl _ | ((try dsimp only); (try simp only [World.size_alloc, grow_size, World.size_setCell]); omega)))))).ext hxa)) | (go_at_call 26; refine (rmtagsN_ r gb gt gp n nb nt B T D _ HPa.out.h2 tl kt HTLR.out HKT.out).mono ?_; rintro e Wb ⟨Ab, cab, rfl, HRb, HXb⟩; have hxb := HXb.out; have HPb := hid (HPa.out.ext hxb); have HCb := hid (HCa.out.ext hxb)) | (go_at_call 24; (with_reducible refine (tsame_ Aa Ab kt caa cab tl _ (HRa.out.ext hxb) HRb.out HKT.out.symm hkt8).mono ?_); rintro e Wc ⟨rfl, hxc⟩; have HPc := hid (HPb.out.ext hxc); have HCc := hid (HCb.out.ext hxc)) | (go_at_call 27; refine (hDirty w _ q g n B T D HPc.out.h1 dl kd HDL.out HKD.out).mono ?_; rintro e Wd ⟨Ad, cad, rfl, HRd, HMd, HXd, _⟩; have hxd := HXd.out; have HPd := hid (HPc.out.ext hxd); have HCd := hid (HCc.out.ext hxd)) | (go_at_call 28; refine (rmdirtyN_ r gb gt gp n nb nt B T D _ HPd.out.h2 dl kd HDL.out HKD.out).mono ?_; rintro e We ⟨Ae, cae, rfl, HRe, HXe⟩; have hxe := HXe.out; have HPe := hid (HPd.out.ext hxe); have HCe := hid (HCd.out.ext hxe)) | (go_at_call 24; (with_reducible refine (tsame_ Ad Ae kd cad cae dl _ (HRd.out.ext hxe) HRe.out HKD.out.symm hkd8).mono ?_); rintro e Wf ⟨rfl, hxf⟩; have HPf := hid (HPe.out.ext hxf); have HCf := hid (HCe.out.ext hxf); have f1 : World.cell? _ ⟨ob, 1, none⟩ = some (.int .i64 xa) := HCf.out.2 1 _ rfl; have fl := HCf.out.1) | (go_at_call 29; refine (fTag w _ q g n B T D HPf.out.h1 xa).mono ?_; rw [HTV.out]; rintro e Wg ⟨rfl, rfl⟩) | (go_at_call 30; refine (rTag _ r gb gt gp n nb nt B T D HPf.out.h2 xa).mono ?_; rw [HTV.out]; rintro e Wg ⟨rfl, rfl⟩)); refine ⟨_, (by repeat (first | (with_reducible exact Ext.refl _) | (with_reducible refine Ext.undrew ?_) | (with_reducible refine Ext.grow ?_ _) | (with_reducible refine Ext.drew ?_) | (with_reducible refine Ext.drewN ?_ _) | (with_reducible refine Ext.alloc ?_ _) | (with_reducible assumption) | ((with_reducible refine Ext.setCell ?_ ?_ _); rotate_left; (first | exact Nat.le_refl _ | ((try dsimp only); (try simp only [World.size_alloc, grow_size, World.size_setCell]); omega))))), Ext.refl _, ?_⟩) | refine step_br ?_ ?_)
              all_goals refine step_nil ?_
              go_wp2
              go_roundw
              case rel => exact ⟨k + 1, B, T, D, by omega, by go_num, HPf⟩
              case measure => simp [intOf]; omega
          · obtain rfl : k = zs1.length := by omega
            have hk1 : ¬ (zs1.length : Int) < (zs1.length : Int) := by omega
            have HNB : Hid (nb = 256 * n) := hid HPr.out.h2.eb
            have hnb0 : 0 < nb := by have := HPr.out.h2.bd; have := HNB.out; omega
            have hnb1 : nb ≤ 900000 := by have := HNB.out; omega
            obtain ⟨lB, hlB⟩ : ∃ l, bytesAt B 0 nb = l := ⟨_, rfl⟩
            have HLB := hid hlB
            have HLL : Hid (lB.length = nb) := hid (by rw [← hlB]; exact bytesAt_length _ _ _)
            clear hlB
            go_upto_region 38 with (first | (go_at_call 31; refine (fSize w _ q g n B T D HPr.out.h1 nb HNB.out).mono ?_; rintro e W3 ⟨rfl, rfl⟩) | (go_at_call 18; refine (hLoad w _ q g n B T D HPr.out.h1 0 (nb : Int) 0 nb rfl rfl (by have := HNB.out; omega)).mono ?_; rintro e W3 ⟨lb3, rfl, HR3, HM3, HX3, HF3⟩))
            have HP3 := hid (HPr.out.ext HX3.out)
            go_upto_region 39 with (first | (go_at_call 32; refine (rmsize_ r gb gt gp n nb nt B T D _ HP3.out.h2).mono ?_; rintro e W4 ⟨rfl, rfl⟩) | (go_at_call 19; refine (rLd _ r gb gt gp n nb nt B T D HP3.out.h2 0 (nb : Int) 0 nb rfl rfl (by have := HNB.out; omega) hnb1).mono ?_; rintro e W4 ⟨A4, ca4, rfl, HR4, HX4, HF4⟩))
            have HP4 := hid (HP3.out.ext HX4.out)
            rw [HLB.out] at HR3 HR4
            have hs1 := run_strA (P := Try.prog) W4 29 9 5 Try.underlying29 Try.underlying5 Try.underlying9 (some ⟨lb3, 0, none⟩) nb lB nb HLL.out (HR3.out.ext HX4.out) (.inr ⟨_, rfl⟩)
            have hs2 := run_strA (P := Try.prog) W4 29 9 5 Try.underlying29 Try.underlying5 Try.underlying9 A4 ca4 lB nb HLL.out HR4.out (by rcases HF4.out with c | ⟨gg, c, _⟩; exact .inl c; exact .inr ⟨gg, c⟩)
            go_wp2_with (first | (go_at_call 31; refine (fSize w _ q g n B T D HP4.out.h1 nb HNB.out).mono ?_; rintro e W5 ⟨rfl, rfl⟩) | (go_at_call 32; refine (rmsize_ r gb gt gp n nb nt B T D _ HP4.out.h2).mono ?_; rintro e W5 ⟨rfl, rfl⟩))
            go_ret
            exact ⟨by first | rfl | simp, HP4.out.h1.2.1⟩
end tagmemPlays

end Go.Proofs.Ytgpeabbbeidhpaa
