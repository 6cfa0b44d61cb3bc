/- The walk of TagmemTags. -/
import Derived.Test.YtgpeabbbeidhpaaTagP
import Derived.Deep.DeepCutAuto
import Derived.Deep.CutBlock
namespace Go.Proofs.Ytgpeabbbeidhpaa
set_option linter.unusedSimpArgs false
set_option linter.unusedVariables false
open Go.RowKit

open Go.Deep Go.RowKit
namespace tagmemTags
set_option maxRecDepth 100000 in
set_option maxHeartbeats 8000000 in
theorem walk (A0 : Option Addr) (cap0 : Nat) (zs0 : List TOp) (a1 : Int) (w : World) (wl0 : zs0.length ≤ maxLen) (hs0 : SlAtN w A0 10 (zs0.map TOp.cells)) (wz0 : ∀ z ∈ zs0, z.good w) (w1 : (Lit.int .u16 a1).wf = true) :
    Calls Try.prog 4 #[.slice A0 zs0.length cap0, .int .u16 a1] w fun e w' => e = .returned (.bool true) ∧ Ext w w' := by
  have ha' : 0 ≤ a1 ∧ a1 ≤ 65535 := by simpa [Lit.wf, IntKind.min, IntKind.max, IntKind.signed, IntKind.bits] using w1
  obtain ⟨ha0, ha1⟩ := ha'
  clear w1
  have HSL := hid hs0
  have HWZ := hid wz0
  clear hs0 wz0
  obtain ⟨kk, hkk, htm⟩ : ∃ kk : Nat, kk < 16 * 4 ∧ a1.tmod 64 = (kk : Int) := ⟨(a1 % 64).toNat, by omega, by rw [Int.tmod_eq_emod_of_nonneg ha0]; omega⟩
  go_enter Try.func4, Try.ntmps4
  go_upto_region 2 with (go_at_call 8; refine Calls.mono (head_ _) ?_; rintro e wh ⟨rfl, hxh⟩)
  go_upto_region 3 with (go_at_call 10; refine (hNew 4 4 (by decide) _ (by decide) (by decide)).mono ?_; rintro e w1 ⟨q, rfl, g, HM1⟩)
  have HMM : Hid (HM w w1 q g 4 (fun _ => 0) (fun _ => false) (fun _ => false)) := hid ⟨HM1.out.1, hxh.trans HM1.out.2.1, Nat.le_trans hxh.size HM1.out.2.2.1, Nat.le_trans hxh.size HM1.out.2.2.2⟩
  clear HM1 hxh
  go_wp2_with (go_at_call 9; refine (great_ A0 cap0 zs0 _ wl0 (HSL.out.ext HMM.out.2.1)).mono ?_; rintro e w2 ⟨b, rfl, hx2, hgr⟩; rcases b with _ | _)
  rotate_left
  · go_ret
    exact ⟨rfl, HMM.out.2.1.trans hx2⟩
  · skip
    have hlen : zs0.length ≤ 200 := by first | exact hgr.out rfl | exact hgr.out trivial | exact hgr.out
    have HM2 := hid (HMM.out.ext hx2)
    clear HMM hx2 hgr htm ha0 ha1
    go_loopw [8, 9] (fun v i wr => ∃ (k : Nat) (B : Nat → Int) (T D : Nat → Bool), k ≤ zs0.length ∧ v = .bool (T kk) ∧ i = .int .i64 k ∧ Hid (HM w wr q g 4 B T D)) (fun _ i _ => zs0.length - (intOf i).toNat)
    case atStart => exact ⟨0, _, (fun _ => false), _, Nat.zero_le _, rfl, rfl, HM2⟩
    case round =>
      clear HM2
      obtain ⟨k, B, T, D, hk, rfl, rfl, HMr⟩ := hrel
      have hk3 : (0 : Int) ≤ (k : Int) := by omega
      by_cases hlt : k < zs0.length
      · obtain ⟨z, hz⟩ : ∃ z, zs0[k] = z := ⟨_, rfl⟩
        have hzg : Hid (z.good w) := hid (by rw [← hz]; exact HWZ.out _ (List.getElem_mem hlt))
        have hzA : Hid (∀ {W : World} {B : Nat → Int} {T D : Nat → Bool}, HM w W q g 4 B T D → 0 < z.bl.length → ∀ b o, z.A = some ⟨b, o, none⟩ → ¬ b = g) := hid (fun hM h0 b o e hb => by
          obtain ⟨b', o', e', hl', _⟩ := hzg.out.2.2.1.2.2.1 h0
          rw [e] at e'
          cases e'
          have := hM.2.2.1
          omega)
        obtain ⟨b0, o, rfl, hb0, hop⟩ := TOp.facts HSL.out hlt z hz
        have HOP := hid (rg_ext hop hb0 HMr.out.2.1)
        have hb1 : b0 < wr.heap.size := Nat.lt_of_lt_of_le hb0 HMr.out.2.1.size
        have hk1 : (k : Int) < (zs0.length : Int) := by omega
        clear hop hz
        have c0 : wr.cell? ⟨b0, o + k * 10, none⟩ = some (.int .i64 z.what) := HOP.out 0 _ rfl
        have c1 : wr.cell? ⟨b0, o + k * 10 + 1, none⟩ = some (.int .i64 z.at_) := HOP.out 1 _ rfl
        have c2 : wr.cell? ⟨b0, o + k * 10 + 2, none⟩ = some (.slice z.A z.bl.length z.ca) := HOP.out 2 _ rfl
        have c3 : wr.cell? ⟨b0, o + k * 10 + 3, none⟩ = some (.bool z.c.tag) := HOP.out 3 _ rfl
        have c4 : wr.cell? ⟨b0, o + k * 10 + 4, none⟩ = some (.int .i64 z.c.base) := HOP.out 4 _ rfl
        have c5 : wr.cell? ⟨b0, o + k * 10 + 5, none⟩ = some (.int .i64 z.c.top) := HOP.out 5 _ rfl
        have c6 : wr.cell? ⟨b0, o + k * 10 + 6, none⟩ = some (.int .i64 z.c.at_) := HOP.out 6 _ rfl
        have c7 : wr.cell? ⟨b0, o + k * 10 + 7, none⟩ = some (.int .i64 z.c.perms) := HOP.out 7 _ rfl
        have c8 : wr.cell? ⟨b0, o + k * 10 + 8, none⟩ = some (.int .i64 z.c.type) := HOP.out 8 _ rfl
        have c9 : wr.cell? ⟨b0, o + k * 10 + 9, none⟩ = some (.int .i64 z.n) := HOP.out 9 _ rfl
        go_upto_region 11 with (fail)
        refine wp_gen (fun W => Hid (HM w W q g 4 B T D) ∧ Hid (CapB W wr.heap.size z.cells) ∧ Hid (¬ wr.heap.size = g)) ⟨hid (HMr.out.ext (by repeat (first | (with_reducible exact Ext.refl _) | (with_reducible refine Ext.undrew ?_) | (with_reducible refine Ext.grow ?_ _) | (with_reducible refine Ext.drew ?_) | (with_reducible refine Ext.drewN ?_ _) | (with_reducible refine Ext.alloc ?_ _) | (with_reducible assumption) | ((with_reducible refine Ext.setCell ?_ ?_ _); rotate_left; (first | exact Nat.le_refl _ | ((try dsimp only); (try simp only [World.size_alloc, grow_size, World.size_setCell]); omega)))))), hid (CapB.new wr _ _), hid (by have := HMr.out.1.ltg; omega)⟩ ?_
        clear c0 c1 c2 c3 c4 c5 c6 c7 c8 c9 hb1 HOP
        rintro W2 ⟨HM2, HC2, hng0⟩
        generalize wr.heap.size = ob at HC2 hng0 ⊢
        have hng := hng0.out
        clear HMr hng0
        have hab := wf_i64 hzg.out.2.1
        obtain ⟨xa, hxa⟩ : ∃ x, z.at_ = x := ⟨_, rfl⟩
        obtain ⟨wh, hwh⟩ : ∃ x, z.what = x := ⟨_, rfl⟩
        have HCx : Hid (CapB W2 ob [.int .i64 wh, .int .i64 xa, .slice z.A z.bl.length z.ca, .bool z.c.tag, .int .i64 z.c.base, .int .i64 z.c.top, .int .i64 z.c.at_, .int .i64 z.c.perms, .int .i64 z.c.type, .int .i64 z.n]) := hid (by rw [← hxa, ← hwh]; exact HC2.out)
        rw [hxa] at hab
        clear hxa hwh HC2
        have HC2 := HCx
        clear HCx
        have d0 : World.cell? _ ⟨ob, 0, none⟩ = some (.int .i64 wh) := HC2.out.2 0 _ rfl
        have d1 : World.cell? _ ⟨ob, 1, none⟩ = some (.int .i64 xa) := HC2.out.2 1 _ rfl
        have d2 : World.cell? _ ⟨ob, 2, none⟩ = some (.slice z.A z.bl.length z.ca) := HC2.out.2 2 _ rfl
        have d3 : World.cell? _ ⟨ob, 3, none⟩ = some (.bool z.c.tag) := HC2.out.2 3 _ rfl
        have d4 : World.cell? _ ⟨ob, 4, none⟩ = some (.int .i64 z.c.base) := HC2.out.2 4 _ rfl
        have d5 : World.cell? _ ⟨ob, 5, none⟩ = some (.int .i64 z.c.top) := HC2.out.2 5 _ rfl
        have d6 : World.cell? _ ⟨ob, 6, none⟩ = some (.int .i64 z.c.at_) := HC2.out.2 6 _ rfl
        have d7 : World.cell? _ ⟨ob, 7, none⟩ = some (.int .i64 z.c.perms) := HC2.out.2 7 _ rfl
        have d8 : World.cell? _ ⟨ob, 8, none⟩ = some (.int .i64 z.c.type) := HC2.out.2 8 _ rfl
        have d9 : World.cell? _ ⟨ob, 9, none⟩ = some (.int .i64 z.n) := HC2.out.2 9 _ rfl
        have dl := HC2.out.1
        go_upto_block 2 with (fail)
        go_cut [8] (fun s8 wx => ∃ (B : Nat → Int) (T D : Nat → Bool), s8 = .bool (T kk) ∧ Hid (HM w wx q g 4 B T D))
        case first =>
          by_cases h2 : wh = 2
          · subst h2
            by_cases hs : placeP 4 xa ∧ rightC ⟨z.c.tag, z.c.base, z.c.top, z.c.at_, z.c.perms, z.c.type⟩ = true
            · by_cases he : xa = 16 * (kk : Int)
              · subst he
                go_wp2_with (go_at_call 12; refine (gCapYes w _ q g 4 B T D HM2.out kk hkk (16 * (kk : Int)) z.c.tag z.c.base z.c.top z.c.at_ z.c.perms z.c.type hs.1 hs.2 z.c.tag (if_pos rfl)).mono ?_; rintro e W3 ⟨B3, T3, D3, rfl, HM3, HO3, HT3⟩; have HC3 := hid (HC2.out.only HO3.out hng); have f1 : W3.cell? ⟨ob, 1, none⟩ = some (.int .i64 (16 * (kk : Int))) := HC3.out.2 1 _ rfl; have f2 : W3.cell? ⟨ob, 2, none⟩ = some (.slice z.A z.bl.length z.ca) := HC3.out.2 2 _ rfl; have f3 : W3.cell? ⟨ob, 3, none⟩ = some (.bool z.c.tag) := HC3.out.2 3 _ rfl; have fl := HC3.out.1)
                go_meet
                exact ⟨B3, T3, D3, (by rw [HT3.out]; try simp [he]), HM3⟩
              · go_wp2_with (go_at_call 12; refine (gCapYes w _ q g 4 B T D HM2.out kk hkk xa z.c.tag z.c.base z.c.top z.c.at_ z.c.perms z.c.type hs.1 hs.2 (T kk) (if_neg he)).mono ?_; rintro e W3 ⟨B3, T3, D3, rfl, HM3, HO3, HT3⟩; have HC3 := hid (HC2.out.only HO3.out hng); have f1 : W3.cell? ⟨ob, 1, none⟩ = some (.int .i64 xa) := HC3.out.2 1 _ rfl; have f2 : W3.cell? ⟨ob, 2, none⟩ = some (.slice z.A z.bl.length z.ca) := HC3.out.2 2 _ rfl; have f3 : W3.cell? ⟨ob, 3, none⟩ = some (.bool z.c.tag) := HC3.out.2 3 _ rfl; have fl := HC3.out.1)
                go_meet
                exact ⟨B3, T3, D3, (by rw [HT3.out]; try simp [he]), HM3⟩
            · go_wp2_with (go_at_call 12; refine (hScNo w _ q g 4 B T D HM2.out xa z.c.tag z.c.base z.c.top z.c.at_ z.c.perms z.c.type hs).mono ?_; rintro e W3 ⟨rfl, HM3, HX3⟩; have HC3 := hid (HC2.out.only (S := fun _ => False) (Only.ofExt HX3.out) id); have f1 : W3.cell? ⟨ob, 1, none⟩ = some (.int .i64 xa) := HC3.out.2 1 _ rfl; have f2 : W3.cell? ⟨ob, 2, none⟩ = some (.slice z.A z.bl.length z.ca) := HC3.out.2 2 _ rfl; have f3 : W3.cell? ⟨ob, 3, none⟩ = some (.bool z.c.tag) := HC3.out.2 3 _ rfl; have fl := HC3.out.1)
              go_meet
              exact ⟨B, T, D, rfl, HM3⟩
          · by_cases h3 : wh = 3
            · subst h3
              by_cases hs : placeP 4 xa ∧ rightC ⟨z.c.tag, z.c.base, z.c.top, z.c.at_, z.c.perms, z.c.type⟩ = true
              · by_cases he : xa = 16 * (kk : Int)
                · subst he
                  go_wp2_with (go_at_call 12; refine (gCapYes w _ q g 4 B T D HM2.out kk hkk (16 * (kk : Int)) z.c.tag z.c.base z.c.top z.c.at_ z.c.perms z.c.type hs.1 hs.2 z.c.tag (if_pos rfl)).mono ?_; rintro e W3 ⟨B3, T3, D3, rfl, HM3, HO3, HT3⟩; have HC3 := hid (HC2.out.only HO3.out hng); have f1 : W3.cell? ⟨ob, 1, none⟩ = some (.int .i64 (16 * (kk : Int))) := HC3.out.2 1 _ rfl; have f2 : W3.cell? ⟨ob, 2, none⟩ = some (.slice z.A z.bl.length z.ca) := HC3.out.2 2 _ rfl; have f3 : W3.cell? ⟨ob, 3, none⟩ = some (.bool z.c.tag) := HC3.out.2 3 _ rfl; have fl := HC3.out.1)
                  go_meet
                  exact ⟨B3, T3, D3, (by rw [HT3.out]; try simp [he]), HM3⟩
                · go_wp2_with (go_at_call 12; refine (gCapYes w _ q g 4 B T D HM2.out kk hkk xa z.c.tag z.c.base z.c.top z.c.at_ z.c.perms z.c.type hs.1 hs.2 (T kk) (if_neg he)).mono ?_; rintro e W3 ⟨B3, T3, D3, rfl, HM3, HO3, HT3⟩; have HC3 := hid (HC2.out.only HO3.out hng); have f1 : W3.cell? ⟨ob, 1, none⟩ = some (.int .i64 xa) := HC3.out.2 1 _ rfl; have f2 : W3.cell? ⟨ob, 2, none⟩ = some (.slice z.A z.bl.length z.ca) := HC3.out.2 2 _ rfl; have f3 : W3.cell? ⟨ob, 3, none⟩ = some (.bool z.c.tag) := HC3.out.2 3 _ rfl; have fl := HC3.out.1)
                  go_meet
                  exact ⟨B3, T3, D3, (by rw [HT3.out]; try simp [he]), HM3⟩
              · go_wp2_with (go_at_call 12; refine (hScNo w _ q g 4 B T D HM2.out xa z.c.tag z.c.base z.c.top z.c.at_ z.c.perms z.c.type hs).mono ?_; rintro e W3 ⟨rfl, HM3, HX3⟩; have HC3 := hid (HC2.out.only (S := fun _ => False) (Only.ofExt HX3.out) id); have f1 : W3.cell? ⟨ob, 1, none⟩ = some (.int .i64 xa) := HC3.out.2 1 _ rfl; have f2 : W3.cell? ⟨ob, 2, none⟩ = some (.slice z.A z.bl.length z.ca) := HC3.out.2 2 _ rfl; have f3 : W3.cell? ⟨ob, 3, none⟩ = some (.bool z.c.tag) := HC3.out.2 3 _ rfl; have fl := HC3.out.1)
                go_meet
                exact ⟨B, T, D, rfl, HM3⟩
            · by_cases h4 : wh = 4
              · subst h4
                cases hT : T kk with
                | false =>
                  go_wp2_with (go_at_call 14; refine (gStrip w _ q g 4 B T D HM2.out kk hkk xa false (by rw [hT]; rfl)).mono ?_; rintro e W3 ⟨b3, B3, T3, D3, rfl, HM3, HO3, HT3⟩; have HC3 := hid (HC2.out.only HO3.out hng); have f1 : W3.cell? ⟨ob, 1, none⟩ = some (.int .i64 xa) := HC3.out.2 1 _ rfl; have f2 : W3.cell? ⟨ob, 2, none⟩ = some (.slice z.A z.bl.length z.ca) := HC3.out.2 2 _ rfl; have f3 : W3.cell? ⟨ob, 3, none⟩ = some (.bool z.c.tag) := HC3.out.2 3 _ rfl; have fl := HC3.out.1)
                  go_meet
                  exact ⟨B3, T3, D3, (by rw [HT3.out]; try simp [he]), HM3⟩
                | true =>
                  by_cases he : xa = 16 * (kk : Int)
                  · subst he
                    go_wp2_with (go_at_call 14; refine (gStrip w _ q g 4 B T D HM2.out kk hkk (16 * (kk : Int)) false (by rw [hT]; simp)).mono ?_; rintro e W3 ⟨b3, B3, T3, D3, rfl, HM3, HO3, HT3⟩; have HC3 := hid (HC2.out.only HO3.out hng); have f1 : W3.cell? ⟨ob, 1, none⟩ = some (.int .i64 (16 * (kk : Int))) := HC3.out.2 1 _ rfl; have f2 : W3.cell? ⟨ob, 2, none⟩ = some (.slice z.A z.bl.length z.ca) := HC3.out.2 2 _ rfl; have f3 : W3.cell? ⟨ob, 3, none⟩ = some (.bool z.c.tag) := HC3.out.2 3 _ rfl; have fl := HC3.out.1)
                    go_meet
                    exact ⟨B3, T3, D3, (by rw [HT3.out]; try simp [he]), HM3⟩
                  · go_wp2_with (go_at_call 14; refine (gStrip w _ q g 4 B T D HM2.out kk hkk xa true (by rw [hT, decide_eq_false he]; rfl)).mono ?_; rintro e W3 ⟨b3, B3, T3, D3, rfl, HM3, HO3, HT3⟩; have HC3 := hid (HC2.out.only HO3.out hng); have f1 : W3.cell? ⟨ob, 1, none⟩ = some (.int .i64 xa) := HC3.out.2 1 _ rfl; have f2 : W3.cell? ⟨ob, 2, none⟩ = some (.slice z.A z.bl.length z.ca) := HC3.out.2 2 _ rfl; have f3 : W3.cell? ⟨ob, 3, none⟩ = some (.bool z.c.tag) := HC3.out.2 3 _ rfl; have fl := HC3.out.1)
                    go_meet
                    exact ⟨B3, T3, D3, (by rw [HT3.out]; try simp [he]), HM3⟩
              · by_cases h5 : wh = 5
                · subst h5
                  go_wp2_with (go_at_call 16; refine (gClean w _ q g 4 B T D HM2.out kk hkk xa (T kk) rfl).mono ?_; rintro e W3 ⟨b3, B3, T3, D3, rfl, HM3, HO3, HT3⟩; have HC3 := hid (HC2.out.only HO3.out hng); have f1 : W3.cell? ⟨ob, 1, none⟩ = some (.int .i64 xa) := HC3.out.2 1 _ rfl; have f2 : W3.cell? ⟨ob, 2, none⟩ = some (.slice z.A z.bl.length z.ca) := HC3.out.2 2 _ rfl; have f3 : W3.cell? ⟨ob, 3, none⟩ = some (.bool z.c.tag) := HC3.out.2 3 _ rfl; have fl := HC3.out.1)
                  go_meet
                  exact ⟨B3, T3, D3, (by rw [HT3.out]; try simp [he]), HM3⟩
                · by_cases h0 : wh = 0
                  · subst h0
                    by_cases hs : spanP 4 xa (z.bl.length : Int)
                    · by_cases e0 : 0 < z.bl.length
                      · by_cases e1 : xa < 16 * (kk : Int) + 16
                        · by_cases e2 : 16 * (kk : Int) < xa + (z.bl.length : Int)
                          · obtain ⟨hs0, hs1, hs2, hs3⟩ := id hs
                            have hr2 : (0 : Int) ≤ xa := hs0
                            have hr3 : xa ≤ 1024 := by omega
                            have hr4 : (z.bl.length : Int) ≤ 1024 := by omega
                            clear hs1 hs2 hs3
                            have q0 : (0 : Int) < (z.bl.length : Int) := by omega
                            go_wp2_with (go_at_call 22; refine (gStYes w _ q g 4 B T D HM2.out kk hkk xa z.A z.bl.length z.ca z.bl rfl (hzg.out.2.2.1.2.2.1.ext HM2.out.2.1) hzg.out.2.2.1.2.2.2 hzg.out.2.2.1.1 (hzA.out HM2.out) hs false (by simp [e0, e1, e2])).mono ?_; rintro e W3 ⟨B3, T3, D3, rfl, HM3, HO3, HT3⟩; have HC3 := hid (HC2.out.only HO3.out hng); have f1 : W3.cell? ⟨ob, 1, none⟩ = some (.int .i64 xa) := HC3.out.2 1 _ rfl; have f2 : W3.cell? ⟨ob, 2, none⟩ = some (.slice z.A z.bl.length z.ca) := HC3.out.2 2 _ rfl; have f3 : W3.cell? ⟨ob, 3, none⟩ = some (.bool z.c.tag) := HC3.out.2 3 _ rfl; have fl := HC3.out.1)
                            go_meet
                            exact ⟨B3, T3, D3, (by rw [HT3.out]; try simp [he]), HM3⟩
                          · obtain ⟨hs0, hs1, hs2, hs3⟩ := id hs
                            have hr2 : (0 : Int) ≤ xa := hs0
                            have hr3 : xa ≤ 1024 := by omega
                            have hr4 : (z.bl.length : Int) ≤ 1024 := by omega
                            clear hs1 hs2 hs3
                            have q0 : (0 : Int) < (z.bl.length : Int) := by omega
                            go_wp2_with (go_at_call 22; refine (gStYes w _ q g 4 B T D HM2.out kk hkk xa z.A z.bl.length z.ca z.bl rfl (hzg.out.2.2.1.2.2.1.ext HM2.out.2.1) hzg.out.2.2.1.2.2.2 hzg.out.2.2.1.1 (hzA.out HM2.out) hs (T kk) (by simp [e2])).mono ?_; rintro e W3 ⟨B3, T3, D3, rfl, HM3, HO3, HT3⟩; have HC3 := hid (HC2.out.only HO3.out hng); have f1 : W3.cell? ⟨ob, 1, none⟩ = some (.int .i64 xa) := HC3.out.2 1 _ rfl; have f2 : W3.cell? ⟨ob, 2, none⟩ = some (.slice z.A z.bl.length z.ca) := HC3.out.2 2 _ rfl; have f3 : W3.cell? ⟨ob, 3, none⟩ = some (.bool z.c.tag) := HC3.out.2 3 _ rfl; have fl := HC3.out.1)
                            go_meet
                            exact ⟨B3, T3, D3, (by rw [HT3.out]; try simp [he]), HM3⟩
                        · obtain ⟨hs0, hs1, hs2, hs3⟩ := id hs
                          have hr2 : (0 : Int) ≤ xa := hs0
                          have hr3 : xa ≤ 1024 := by omega
                          have hr4 : (z.bl.length : Int) ≤ 1024 := by omega
                          clear hs1 hs2 hs3
                          have q0 : (0 : Int) < (z.bl.length : Int) := by omega
                          go_wp2_with (go_at_call 22; refine (gStYes w _ q g 4 B T D HM2.out kk hkk xa z.A z.bl.length z.ca z.bl rfl (hzg.out.2.2.1.2.2.1.ext HM2.out.2.1) hzg.out.2.2.1.2.2.2 hzg.out.2.2.1.1 (hzA.out HM2.out) hs (T kk) (by simp [e1])).mono ?_; rintro e W3 ⟨B3, T3, D3, rfl, HM3, HO3, HT3⟩; have HC3 := hid (HC2.out.only HO3.out hng); have f1 : W3.cell? ⟨ob, 1, none⟩ = some (.int .i64 xa) := HC3.out.2 1 _ rfl; have f2 : W3.cell? ⟨ob, 2, none⟩ = some (.slice z.A z.bl.length z.ca) := HC3.out.2 2 _ rfl; have f3 : W3.cell? ⟨ob, 3, none⟩ = some (.bool z.c.tag) := HC3.out.2 3 _ rfl; have fl := HC3.out.1)
                          go_meet
                          exact ⟨B3, T3, D3, (by rw [HT3.out]; try simp [he]), HM3⟩
                      · obtain ⟨hs0, hs1, hs2, hs3⟩ := id hs
                        have hr2 : (0 : Int) ≤ xa := hs0
                        have hr3 : xa ≤ 1024 := by omega
                        have hr4 : (z.bl.length : Int) ≤ 1024 := by omega
                        clear hs1 hs2 hs3
                        have q0 : ¬ (0 : Int) < (z.bl.length : Int) := by omega
                        go_wp2_with (go_at_call 22; refine (gStYes w _ q g 4 B T D HM2.out kk hkk xa z.A z.bl.length z.ca z.bl rfl (hzg.out.2.2.1.2.2.1.ext HM2.out.2.1) hzg.out.2.2.1.2.2.2 hzg.out.2.2.1.1 (hzA.out HM2.out) hs (T kk) (by simp [e0])).mono ?_; rintro e W3 ⟨B3, T3, D3, rfl, HM3, HO3, HT3⟩; have HC3 := hid (HC2.out.only HO3.out hng); have f1 : W3.cell? ⟨ob, 1, none⟩ = some (.int .i64 xa) := HC3.out.2 1 _ rfl; have f2 : W3.cell? ⟨ob, 2, none⟩ = some (.slice z.A z.bl.length z.ca) := HC3.out.2 2 _ rfl; have f3 : W3.cell? ⟨ob, 3, none⟩ = some (.bool z.c.tag) := HC3.out.2 3 _ rfl; have fl := HC3.out.1)
                        go_meet
                        exact ⟨B3, T3, D3, (by rw [HT3.out]; try simp [he]), HM3⟩
                    · go_wp2_with (go_at_call 22; refine (hStNo w _ q g 4 B T D HM2.out xa z.A z.bl.length z.ca hs).mono ?_; rintro e W3 ⟨rfl, HM3, HX3⟩; have HC3 := hid (HC2.out.only (S := fun _ => False) (Only.ofExt HX3.out) id); have f1 : W3.cell? ⟨ob, 1, none⟩ = some (.int .i64 xa) := HC3.out.2 1 _ rfl; have f2 : W3.cell? ⟨ob, 2, none⟩ = some (.slice z.A z.bl.length z.ca) := HC3.out.2 2 _ rfl; have f3 : W3.cell? ⟨ob, 3, none⟩ = some (.bool z.c.tag) := HC3.out.2 3 _ rfl; have fl := HC3.out.1)
                      go_meet
                      exact ⟨B, T, D, rfl, HM3⟩
                  · by_cases h1 : wh = 1
                    · subst h1
                      by_cases hs : spanP 4 xa (z.bl.length : Int)
                      · by_cases e0 : 0 < z.bl.length
                        · by_cases e1 : xa < 16 * (kk : Int) + 16
                          · by_cases e2 : 16 * (kk : Int) < xa + (z.bl.length : Int)
                            · obtain ⟨hs0, hs1, hs2, hs3⟩ := id hs
                              have hr2 : (0 : Int) ≤ xa := hs0
                              have hr3 : xa ≤ 1024 := by omega
                              have hr4 : (z.bl.length : Int) ≤ 1024 := by omega
                              clear hs1 hs2 hs3
                              have q0 : (0 : Int) < (z.bl.length : Int) := by omega
                              go_wp2_with (go_at_call 22; refine (gStYes w _ q g 4 B T D HM2.out kk hkk xa z.A z.bl.length z.ca z.bl rfl (hzg.out.2.2.1.2.2.1.ext HM2.out.2.1) hzg.out.2.2.1.2.2.2 hzg.out.2.2.1.1 (hzA.out HM2.out) hs false (by simp [e0, e1, e2])).mono ?_; rintro e W3 ⟨B3, T3, D3, rfl, HM3, HO3, HT3⟩; have HC3 := hid (HC2.out.only HO3.out hng); have f1 : W3.cell? ⟨ob, 1, none⟩ = some (.int .i64 xa) := HC3.out.2 1 _ rfl; have f2 : W3.cell? ⟨ob, 2, none⟩ = some (.slice z.A z.bl.length z.ca) := HC3.out.2 2 _ rfl; have f3 : W3.cell? ⟨ob, 3, none⟩ = some (.bool z.c.tag) := HC3.out.2 3 _ rfl; have fl := HC3.out.1)
                              go_meet
                              exact ⟨B3, T3, D3, (by rw [HT3.out]; try simp [he]), HM3⟩
                            · obtain ⟨hs0, hs1, hs2, hs3⟩ := id hs
                              have hr2 : (0 : Int) ≤ xa := hs0
                              have hr3 : xa ≤ 1024 := by omega
                              have hr4 : (z.bl.length : Int) ≤ 1024 := by omega
                              clear hs1 hs2 hs3
                              have q0 : (0 : Int) < (z.bl.length : Int) := by omega
                              go_wp2_with (go_at_call 22; refine (gStYes w _ q g 4 B T D HM2.out kk hkk xa z.A z.bl.length z.ca z.bl rfl (hzg.out.2.2.1.2.2.1.ext HM2.out.2.1) hzg.out.2.2.1.2.2.2 hzg.out.2.2.1.1 (hzA.out HM2.out) hs (T kk) (by simp [e2])).mono ?_; rintro e W3 ⟨B3, T3, D3, rfl, HM3, HO3, HT3⟩; have HC3 := hid (HC2.out.only HO3.out hng); have f1 : W3.cell? ⟨ob, 1, none⟩ = some (.int .i64 xa) := HC3.out.2 1 _ rfl; have f2 : W3.cell? ⟨ob, 2, none⟩ = some (.slice z.A z.bl.length z.ca) := HC3.out.2 2 _ rfl; have f3 : W3.cell? ⟨ob, 3, none⟩ = some (.bool z.c.tag) := HC3.out.2 3 _ rfl; have fl := HC3.out.1)
                              go_meet
                              exact ⟨B3, T3, D3, (by rw [HT3.out]; try simp [he]), HM3⟩
                          · obtain ⟨hs0, hs1, hs2, hs3⟩ := id hs
                            have hr2 : (0 : Int) ≤ xa := hs0
                            have hr3 : xa ≤ 1024 := by omega
                            have hr4 : (z.bl.length : Int) ≤ 1024 := by omega
                            clear hs1 hs2 hs3
                            have q0 : (0 : Int) < (z.bl.length : Int) := by omega
                            go_wp2_with (go_at_call 22; refine (gStYes w _ q g 4 B T D HM2.out kk hkk xa z.A z.bl.length z.ca z.bl rfl (hzg.out.2.2.1.2.2.1.ext HM2.out.2.1) hzg.out.2.2.1.2.2.2 hzg.out.2.2.1.1 (hzA.out HM2.out) hs (T kk) (by simp [e1])).mono ?_; rintro e W3 ⟨B3, T3, D3, rfl, HM3, HO3, HT3⟩; have HC3 := hid (HC2.out.only HO3.out hng); have f1 : W3.cell? ⟨ob, 1, none⟩ = some (.int .i64 xa) := HC3.out.2 1 _ rfl; have f2 : W3.cell? ⟨ob, 2, none⟩ = some (.slice z.A z.bl.length z.ca) := HC3.out.2 2 _ rfl; have f3 : W3.cell? ⟨ob, 3, none⟩ = some (.bool z.c.tag) := HC3.out.2 3 _ rfl; have fl := HC3.out.1)
                            go_meet
                            exact ⟨B3, T3, D3, (by rw [HT3.out]; try simp [he]), HM3⟩
                        · obtain ⟨hs0, hs1, hs2, hs3⟩ := id hs
                          have hr2 : (0 : Int) ≤ xa := hs0
                          have hr3 : xa ≤ 1024 := by omega
                          have hr4 : (z.bl.length : Int) ≤ 1024 := by omega
                          clear hs1 hs2 hs3
                          have q0 : ¬ (0 : Int) < (z.bl.length : Int) := by omega
                          go_wp2_with (go_at_call 22; refine (gStYes w _ q g 4 B T D HM2.out kk hkk xa z.A z.bl.length z.ca z.bl rfl (hzg.out.2.2.1.2.2.1.ext HM2.out.2.1) hzg.out.2.2.1.2.2.2 hzg.out.2.2.1.1 (hzA.out HM2.out) hs (T kk) (by simp [e0])).mono ?_; rintro e W3 ⟨B3, T3, D3, rfl, HM3, HO3, HT3⟩; have HC3 := hid (HC2.out.only HO3.out hng); have f1 : W3.cell? ⟨ob, 1, none⟩ = some (.int .i64 xa) := HC3.out.2 1 _ rfl; have f2 : W3.cell? ⟨ob, 2, none⟩ = some (.slice z.A z.bl.length z.ca) := HC3.out.2 2 _ rfl; have f3 : W3.cell? ⟨ob, 3, none⟩ = some (.bool z.c.tag) := HC3.out.2 3 _ rfl; have fl := HC3.out.1)
                          go_meet
                          exact ⟨B3, T3, D3, (by rw [HT3.out]; try simp [he]), HM3⟩
                      · go_wp2_with (go_at_call 22; refine (hStNo w _ q g 4 B T D HM2.out xa z.A z.bl.length z.ca hs).mono ?_; rintro e W3 ⟨rfl, HM3, HX3⟩; have HC3 := hid (HC2.out.only (S := fun _ => False) (Only.ofExt HX3.out) id); have f1 : W3.cell? ⟨ob, 1, none⟩ = some (.int .i64 xa) := HC3.out.2 1 _ rfl; have f2 : W3.cell? ⟨ob, 2, none⟩ = some (.slice z.A z.bl.length z.ca) := HC3.out.2 2 _ rfl; have f3 : W3.cell? ⟨ob, 3, none⟩ = some (.bool z.c.tag) := HC3.out.2 3 _ rfl; have fl := HC3.out.1)
                        go_meet
                        exact ⟨B, T, D, rfl, HM3⟩
                    · skip
                      go_wp2
                      go_meet
                      exact ⟨B, T, D, rfl, HM2⟩
        case rest =>
          clear HM2 HC2 hab d0 d1 d2 d3 d4 d5 d6 d7 d8 d9 dl
          obtain ⟨B, T, D, rfl, HM2⟩ := hcut
          obtain ⟨tb, htb⟩ : ∃ b, T kk = b := ⟨_, rfl⟩
          have HTB := hid htb
          rw [htb]
          obtain ⟨dk, hdk⟩ : ∃ d, kk / 16 = d := ⟨_, rfl⟩
          have hdkb : dk < 4 := by omega
          have hq : (16 * (kk : Int)).tdiv 256 = (dk : Int) := by rw [Int.tdiv_eq_ediv_of_nonneg (by omega)]; omega
          obtain ⟨tl, htl⟩ : ∃ l, whichN D 4 = l := ⟨_, rfl⟩
          have HTL := hid htl
          obtain ⟨kt, hkt0⟩ : ∃ n, tl.length = n := ⟨_, rfl⟩
          have HKT := hid hkt0
          have hkt : kt ≤ 4 := by rw [← hkt0, ← htl]; exact whichN_len D 4
          have HIN : Hid (tb = true → dk ∈ tl) := hid (fun h => by
            rw [← htl]
            exact whichN_mem.2 ⟨by omega, by rw [← hdk]; exact HM2.out.1.inv kk (htb.trans h)⟩)
          clear htb hdk htl hkt0
          go_upto_region 27 with (go_at_call 27; refine (hDirty w _ q g 4 B T D HM2.out tl kt HTL.out HKT.out).mono ?_; rintro e W5 ⟨A5, ca5, rfl, HR5, HM5, HX5, HF5⟩)
          clear HM2 HX5 HF5 HTL
          cases tb with
          | true =>
            have HIN2 := hid (HIN.out rfl)
            clear HIN
            go_wp2
            go_loopw [11, 13] (fun s11 i wx => ∃ (j : Nat) (c : Bool), j ≤ kt ∧ s11 = .bool c ∧ i = .int .i64 j ∧ Hid (dk ∈ tl.take j → c = true) ∧ Ext W5 wx) (fun _ i _ => kt - (intOf i).toNat)
            case atStart => exact ⟨0, false, Nat.zero_le _, rfl, rfl, hid (fun h => by cases h), Ext.refl _⟩
            case round =>
              obtain ⟨j, c, hj, rfl, rfl, HC6, hx6⟩ := hrel
              have hj0 : (0 : Int) ≤ (j : Int) := by omega
              by_cases hjt : j < kt
              · have hj1 : (j : Int) < (kt : Int) := by omega
                have hjl : j < tl.length := by rw [HKT.out]; exact hjt
                obtain ⟨b, o, rfl, hb, hcc⟩ := (HR5.out.ext hx6) (by omega)
                have hcell := hcc j hjl
                have HTS : Hid (tl.take (j + 1) = tl.take j ++ [tl[j]]) := hid (List.take_succ_eq_append_getElem hjl)
                clear hcc
                generalize tl[j]'hjl = x at hcell HTS
                clear hjl
                cases c with
                | true =>
                  go_wp2
                  go_roundw
                  case rel => exact ⟨j + 1, true, by omega, rfl, by go_num, hid (fun _ => rfl), (hx6.trans (Ext.refl _))⟩
                  case measure => simp [intOf]; omega
                | false =>
                  by_cases hxd : x = dk
                  · have HN : Hid (dk ∈ tl.take (j + 1) → true = true) := hid (fun _ => rfl)
                    subst hxd
                    go_wp2
                    go_roundw
                    case rel => exact ⟨j + 1, true, by omega, (by simp), by go_num, HN, (hx6.trans (Ext.refl _))⟩
                    case measure => simp [intOf]; omega
                  · have hxi : ¬ (x : Int) = (dk : Int) := by omega
                    have HN : Hid (dk ∈ tl.take (j + 1) → false = true) := hid (fun h => by
                      rw [HTS.out] at h
                      rcases List.mem_append.1 h with h | h
                      · exact HC6.out h
                      · exact absurd (List.mem_singleton.1 h).symm hxd)
                    go_wp2
                    go_roundw
                    case rel => exact ⟨j + 1, false, by omega, (by first | (simp; done) | (simp; exact hxi)), by go_num, HN, (hx6.trans (Ext.refl _))⟩
                    case measure => simp [intOf]; omega
              · obtain rfl : j = kt := by omega
                have hj1 : ¬ (j : Int) < (j : Int) := by omega
                obtain rfl : c = true := HC6.out (by rw [List.take_of_length_le (by rw [HKT.out]; exact Nat.le_refl _)]; exact HIN2.out)
                go_wp2_with (go_at_call 29; refine (gTag w _ q g 4 B T D (HM5.out.ext hx6) kk hkk (16 * (kk : Int)) rfl _ HTB.out).mono ?_; rintro e W7 ⟨rfl, rfl⟩)
                go_roundw
                case rel => exact ⟨k + 1, B, T, D, by omega, by rw [HTB.out], by go_num, hid (HM5.out.ext hx6)⟩
                case measure => simp [intOf]; omega
          | false =>
            clear HIN
            go_wp2
            go_loopw [11, 13] (fun s11 i wx => ∃ (j : Nat) (c : Bool), j ≤ kt ∧ s11 = .bool c ∧ i = .int .i64 j ∧ Hid (dk ∈ tl.take j → c = true) ∧ Ext W5 wx) (fun _ i _ => kt - (intOf i).toNat)
            case atStart => exact ⟨0, false, Nat.zero_le _, rfl, rfl, hid (fun h => by cases h), Ext.refl _⟩
            case round =>
              obtain ⟨j, c, hj, rfl, rfl, HC6, hx6⟩ := hrel
              have hj0 : (0 : Int) ≤ (j : Int) := by omega
              by_cases hjt : j < kt
              · have hj1 : (j : Int) < (kt : Int) := by omega
                have hjl : j < tl.length := by rw [HKT.out]; exact hjt
                obtain ⟨b, o, rfl, hb, hcc⟩ := (HR5.out.ext hx6) (by omega)
                have hcell := hcc j hjl
                have HTS : Hid (tl.take (j + 1) = tl.take j ++ [tl[j]]) := hid (List.take_succ_eq_append_getElem hjl)
                clear hcc
                generalize tl[j]'hjl = x at hcell HTS
                clear hjl
                cases c with
                | true =>
                  go_wp2
                  go_roundw
                  case rel => exact ⟨j + 1, true, by omega, rfl, by go_num, hid (fun _ => rfl), (hx6.trans (Ext.refl _))⟩
                  case measure => simp [intOf]; omega
                | false =>
                  by_cases hxd : x = dk
                  · have HN : Hid (dk ∈ tl.take (j + 1) → true = true) := hid (fun _ => rfl)
                    subst hxd
                    go_wp2
                    go_roundw
                    case rel => exact ⟨j + 1, true, by omega, (by simp), by go_num, HN, (hx6.trans (Ext.refl _))⟩
                    case measure => simp [intOf]; omega
                  · have hxi : ¬ (x : Int) = (dk : Int) := by omega
                    have HN : Hid (dk ∈ tl.take (j + 1) → false = true) := hid (fun h => by
                      rw [HTS.out] at h
                      rcases List.mem_append.1 h with h | h
                      · exact HC6.out h
                      · exact absurd (List.mem_singleton.1 h).symm hxd)
                    go_wp2
                    go_roundw
                    case rel => exact ⟨j + 1, false, by omega, (by first | (simp; done) | (simp; exact hxi)), by go_num, HN, (hx6.trans (Ext.refl _))⟩
                    case measure => simp [intOf]; omega
              · obtain rfl : j = kt := by omega
                have hj1 : ¬ (j : Int) < (j : Int) := by omega
                skip
                go_wp2_with (go_at_call 29; refine (gTag w _ q g 4 B T D (HM5.out.ext hx6) kk hkk (16 * (kk : Int)) rfl _ HTB.out).mono ?_; rintro e W7 ⟨rfl, rfl⟩)
                go_roundw
                case rel => exact ⟨k + 1, B, T, D, by omega, by rw [HTB.out], by go_num, hid (HM5.out.ext hx6)⟩
                case measure => simp [intOf]; omega
      · obtain rfl : k = zs0.length := by omega
        have hk1 : ¬ (zs0.length : Int) < (zs0.length : Int) := by omega
        go_wp2
        go_ret
        exact ⟨rfl, HMr.out.2.1⟩
end tagmemTags

end Go.Proofs.Ytgpeabbbeidhpaa
