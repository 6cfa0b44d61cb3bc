/- The walk of SweepPlays. -/
import Derived.Test.YthamfkbopjagdaaSweW
import Derived.Test.YthamfkbopjagdaaSweI
import Derived.ChangeKeysEq
import Derived.Deep.DeepCutAuto
import Derived.Deep.CutBlock
namespace Go.Proofs.Ythamfkbopjagdaa
set_option linter.unusedSimpArgs false
set_option linter.unusedVariables false
open Go.RowKit

open Go.Deep Go.RowKit
namespace sweepPlays
set_option linter.unusedSimpArgs false
set_option linter.unusedVariables false
theorem cap_equal (d : Nat) (t : Bool) (b tp a p ty : Int) (w : World) : (Op.equalIn (d + 2) 24 (.agg #[.bool t, .int .i64 b, .int .i64 tp, .int .i64 a, .int .i64 p, .int .i64 ty]) (.agg #[.bool t, .int .i64 b, .int .i64 tp, .int .i64 a, .int .i64 p, .int .i64 ty])).run Try.prog w = .ok true w := by
  simp [go_sem]
theorem cap_ne (c : Cap) (o : Oper) (x y : Operand) (s : TypeId) (ρ : Operand → Value) (ho : o.op = .binOp .neq 24 x y s) (hx : ρ x = .agg (capL c).toArray) (hy : ρ y = .agg (capL c).toArray) (w : World) : (execOp ρ o).run Try.prog w = .ok (.value (.bool false)) w := by
  have hg : (eqGuard .neq 24 x y (.agg (capL c).toArray) (.agg (capL c).toArray)).run Try.prog w = .ok () w := run_eqGuard_agg w _ _ _ _ _ _ (by kernel_rfl)
  have he : (Op.equal 24 (.agg (capL c).toArray) (.agg (capL c).toArray)).run Try.prog w = .ok true w := cap_equal 9998 c.tag c.base c.top c.at_ c.perms c.type w
  unfold execOp
  rw [ho]
  simp only [hx, hy, Sem.run_bind, hg, Result.andThen_ok, binOp, he, Sem.run_pure]
  rfl
set_option maxRecDepth 100000 in
set_option maxHeartbeats 12000000 in
theorem walk (A0 : Option Addr) (cap0 : Nat) (zs0 : List WOp) (t1 : Bool) (b1 tp1 at1 pm1 ty1 : Int) (w : World) (wl0 : zs0.length ≤ maxLen) (hs0 : SlAtN w A0 15 (zs0.map WOp.cells)) (wz0 : ∀ z ∈ zs0, z.good w) (wb1 : (Lit.int .i64 b1).wf = true) (wtp1 : (Lit.int .i64 tp1).wf = true) (wat1 : (Lit.int .i64 at1).wf = true) (wpm1 : (Lit.int .i64 pm1).wf = true) (wty1 : (Lit.int .i64 ty1).wf = true) :
    Calls Try.prog 3 #[.slice A0 zs0.length cap0, .agg #[.bool t1, .int .i64 b1, .int .i64 tp1, .int .i64 at1, .int .i64 pm1, .int .i64 ty1]] w fun e w' => e = .returned (.bool true) ∧ Ext w w' := by
  have HSL := hid hs0
  have HWZ := hid wz0
  have HB1 : Hid (b1 ≤ 9223372036854775807) := hid (wfi64 wb1).2
  clear hs0 wz0 wb1 wtp1 wat1 wpm1 wty1
  go_enter Try.func3, Try.ntmps3
  go_upto_region 1 with (fail)
  refine wp_gen (fun V => Hid (Ext w V) ∧ Hid (CapB V w.heap.size [.bool t1, .int .i64 b1, .int .i64 tp1, .int .i64 at1, .int .i64 pm1, .int .i64 ty1])) ⟨hid (by repeat (first | (with_reducible exact Ext.refl _) | (with_reducible refine Ext.undrew ?_) | (with_reducible refine Ext.grow ?_ _) | (with_reducible refine Ext.drew ?_) | (with_reducible refine Ext.drewN ?_ _) | (with_reducible refine Ext.alloc ?_ _) | (with_reducible assumption) | ((with_reducible refine Ext.setCell ?_ ?_ _); rotate_left; (first | exact Nat.le_refl _ | ((try dsimp only); (try simp only [World.size_alloc, grow_size, World.size_setCell]); omega))))), hid (CapB.new w _ _)⟩ ?_
  rintro W0 ⟨HX1, HBX⟩
  generalize w.heap.size = cb at HBX ⊢
  go_upto_region 2 with (go_at_call 8; refine Calls.mono (head_ _) ?_; rintro e wh ⟨rfl, hxh⟩)
  go_upto_region 3 with (go_at_call 9; refine (hNew 4 4 (by decide) _ (by decide) (by decide)).mono ?_; rintro e w1 ⟨q, rfl, g, HM1⟩)
  go_upto_region 4 with (go_at_call 10; refine (new_ 64 _ (by decide) (by decide)).mono ?_; rintro e w2 ⟨p, pq, rfl, hs2, hx2, hp2, hpq2⟩)
  go_upto_region 5 with (go_at_call 11; refine (rmnew_ 4 _ (by decide) (by decide)).mono ?_; rintro e w3 ⟨r, gb, gt, gp, rfl, HR1, hx3, k1, k2, k3, k4⟩)
  go_upto_region 6 with (go_at_call 12; refine (rnew_ 64 _ (by decide) (by decide)).mono ?_; rintro e w4 ⟨u, v, rfl, hr4, hx4, k5, k6⟩)
  have HX5 : Hid (Ext W0 w4) := hid ((((hxh.trans HM1.out.2.1).trans hx2).trans hx3).trans hx4)
  go_upto_region 8 with (go_at_call 13; refine (great10_ A0 cap0 zs0.length zs0 _ rfl wl0 (HSL.out.ext (HX1.out.trans HX5.out))).mono ?_; rintro e w6 ⟨b, rfl, hx6, hgr⟩; rcases b with _ | _)
  rotate_left
  · go_ret
    exact ⟨by first | rfl | simp, (HX1.out.trans HX5.out).trans hx6⟩
  · have hlen : zs0.length ≤ 200 := by first | exact hgr.out rfl | exact hgr.out trivial
    go_upto_region 9 with (go_at_call 14; refine (swnew_ q p _).mono ?_; rintro e w7 ⟨s, rfl, HS7, HX7, HL7⟩)
    go_upto_region 10 with (go_at_call 15; refine (rwnew_ r u _).mono ?_; rintro e w8 ⟨t, rfl, HS8, HX8, HL8⟩)
    have HPQ : Hid (∃ nb nt, DM W0 w8 q g s p pq r gb gt gp t u v nb nt ⟨fun _ => 0, fun _ => false, fun _ => false, fun _ => false, false, [], 0⟩ ⟨fun _ => 0, fun _ => false, fun _ => false, fun _ => false, false, [], 0⟩) := hid ⟨256 * 4, 16 * 4, none, 0, none, 0, by
      have e1 := HM1.out
      have l1 := e1.1.ltq
      have l2 := e1.1.ltg
      have m5 := e1.2.2.1
      have m6 := e1.2.2.2
      have l3 := hs2.ltp
      have l4 := hs2.ltq
      have l5 := HR1.out.lr
      have l6 := HR1.out.lb
      have l7 := HR1.out.lt
      have l8 := HR1.out.lp
      have l9 := hr4.ltp
      have m1 := hr4.ltq
      have m2 := HL7.out
      have m3 := HS7.out.lt
      have m4 := HL8.out
      have z1 := hxh.size
      have z2 := e1.2.1.size
      have z3 := hx2.size
      have z4 := hx3.size
      have z5 := hx4.size
      have z6 := hx6.size
      have z7 := HX7.out.size
      have z8 := HX8.out.size
      have n1 := HR1.out.ne
      have n2 := hs2.np
      have n3 := hr4.np
      have n4 := e1.1.ne
      have xa : Ext w1 w8 := ((((hx2.trans hx3).trans hx4).trans hx6).trans HX7.out).trans HX8.out
      have xb : Ext w2 w8 := (((hx3.trans hx4).trans hx6).trans HX7.out).trans HX8.out
      have xc : Ext w3 w8 := ((hx4.trans hx6).trans HX7.out).trans HX8.out
      have xd : Ext w4 w8 := (hx6.trans HX7.out).trans HX8.out
      refine ⟨⟨⟨e1.1.ext xa, (hxh.trans e1.2.1).trans xa, by omega, by omega⟩, hs2.ext xb, HS7.out.ext HX8.out, ⟨by omega, by omega, by omega, by omega, by omega, by omega, by omega, by omega⟩, ⟨by omega, by omega, by omega⟩, fun b o e => (by cases e), fun x hx => (by cases hx)⟩,
        ⟨HX5.out.trans xd, HR1.out.ext xc, hr4.ext xd, HS8.out, ⟨by omega, by omega, by omega, by omega, by omega, by omega⟩, ⟨by omega, by omega, by omega, by omega, by omega, by omega, by omega⟩, ⟨by omega, by omega, by omega, by omega, by omega⟩, fun b o e => (by cases e), fun x hx => (by cases hx)⟩, fun b o e => (by cases e), fun b o e => (by cases e), ⟨?_, ?_⟩⟩
      · unfold Zr
        omega
      · unfold Zi
        omega⟩
    obtain ⟨nb, nt, hpp⟩ := HPQ.out
    have HPP := hid hpp
    clear HPQ hpp HM1 hs2 HR1 hr4 HS7 HS8 HX7 HX8 HL7 HL8 hxh hx2 hx3 hx4 hx6 hp2 hpq2 k1 k2 k3 k4 k5 k6 HX5 hgr
    go_wp2
    go_loopw [12] (fun i wr => ∃ (k : Nat) (x : SSt), k ≤ zs0.length ∧ i = .int .i64 k ∧ Hid (DM W0 wr q g s p pq r gb gt gp t u v nb nt x x) ∧ Hid (x.fits k)) (fun i _ => zs0.length - (intOf i).toNat)
    case atStart => exact ⟨0, ⟨fun _ => 0, fun _ => false, fun _ => false, fun _ => false, false, [], 0⟩, Nat.zero_le _, rfl, HPP, hid ⟨Nat.zero_le _, Nat.le_refl _⟩⟩
    case round =>
      clear HPP
      obtain ⟨k, x, hk, rfl, HPr, HFT⟩ := hrel
      have hk3 : (0 : Int) ≤ (k : Int) := by omega
      by_cases hlt : k < zs0.length
      · obtain ⟨z, hz⟩ : ∃ z, zs0[k] = z := ⟨_, rfl⟩
        have HZG : Hid (z.good w) := hid (by rw [← hz]; exact HWZ.out _ (List.getElem_mem hlt))
        obtain ⟨b0, o, rfl, hb0, hop⟩ := WOp.facts HSL.out hlt z hz
        have HK2 : Hid (k ≤ 200) := hid (by omega)
        have HRG := hid HPr.out.rg
        have HXr : Hid (Ext w wr) := hid (HX1.out.trans HPr.out.base)
        have HOP := hid (rg_ext hop hb0 HXr.out)
        have hb1 : b0 < wr.heap.size := Nat.lt_of_lt_of_le hb0 HXr.out.size
        have hk1 : (k : Int) < (zs0.length : Int) := by omega
        clear hop hz hb0
        have c0 : World.cell? wr ⟨b0, o + k * 15, none⟩ = some (.int .i64 z.what) := HOP.out 0 _ rfl
        have c1 : World.cell? wr ⟨b0, o + k * 15 + 1, none⟩ = some (.int .i64 z.m.what) := HOP.out 1 _ rfl
        have c2 : World.cell? wr ⟨b0, o + k * 15 + 2, none⟩ = some (.int .i64 z.m.at_) := HOP.out 2 _ rfl
        have c3 : World.cell? wr ⟨b0, o + k * 15 + 3, none⟩ = some (.slice z.m.A z.m.bl.length z.m.ca) := HOP.out 3 _ rfl
        have c4 : World.cell? wr ⟨b0, o + k * 15 + 4, none⟩ = some (.bool z.m.c.tag) := HOP.out 4 _ rfl
        have c5 : World.cell? wr ⟨b0, o + k * 15 + 5, none⟩ = some (.int .i64 z.m.c.base) := HOP.out 5 _ rfl
        have c6 : World.cell? wr ⟨b0, o + k * 15 + 6, none⟩ = some (.int .i64 z.m.c.top) := HOP.out 6 _ rfl
        have c7 : World.cell? wr ⟨b0, o + k * 15 + 7, none⟩ = some (.int .i64 z.m.c.at_) := HOP.out 7 _ rfl
        have c8 : World.cell? wr ⟨b0, o + k * 15 + 8, none⟩ = some (.int .i64 z.m.c.perms) := HOP.out 8 _ rfl
        have c9 : World.cell? wr ⟨b0, o + k * 15 + 9, none⟩ = some (.int .i64 z.m.c.type) := HOP.out 9 _ rfl
        have c10 : World.cell? wr ⟨b0, o + k * 15 + 10, none⟩ = some (.int .i64 z.m.n) := HOP.out 10 _ rfl
        have c11 : World.cell? wr ⟨b0, o + k * 15 + 11, none⟩ = some (.int .i64 z.p.f) := HOP.out 11 _ rfl
        have c12 : World.cell? wr ⟨b0, o + k * 15 + 12, none⟩ = some (.int .i64 z.p.t) := HOP.out 12 _ rfl
        have c13 : World.cell? wr ⟨b0, o + k * 15 + 13, none⟩ = some (.bool z.p.b) := HOP.out 13 _ rfl
        have c14 : World.cell? wr ⟨b0, o + k * 15 + 14, none⟩ = some (.int .i64 z.n) := HOP.out 14 _ rfl
        go_upto_region 16 with (fail)
        refine wp_gen (fun W => Hid (DM W0 W q g s p pq r gb gt gp t u v nb nt x x) ∧ Hid (CapB W wr.heap.size z.cells) ∧ Hid (¬ Zr gb gt gp t v wr.heap.size ∧ ¬ Zi g s pq wr.heap.size)) ⟨hid (HPr.out.ext (by repeat (first | (with_reducible exact Ext.refl _) | (with_reducible refine Ext.undrew ?_) | (with_reducible refine Ext.grow ?_ _) | (with_reducible refine Ext.drew ?_) | (with_reducible refine Ext.drewN ?_ _) | (with_reducible refine Ext.alloc ?_ _) | (with_reducible assumption) | ((with_reducible refine Ext.setCell ?_ ?_ _); rotate_left; (first | exact Nat.le_refl _ | ((try dsimp only); (try simp only [World.size_alloc, grow_size, World.size_setCell]); omega)))))), hid (CapB.new wr _ _), hid (by have h := HPr.out.low; exact ⟨fun c => by have := h.2.2.1 _ c; omega, fun c => by have := h.2.2.2 _ c; omega⟩)⟩ ?_
        clear c0 c1 c2 c3 c4 c5 c6 c7 c8 c9 c10 c11 c12 c13 c14 hb1 HOP HPr
        rintro W2 ⟨HP2, HC2, HNG⟩
        generalize wr.heap.size = ob at HC2 HNG ⊢
        obtain ⟨wh, hwh⟩ : ∃ x, z.what = x := ⟨_, rfl⟩
        obtain ⟨mw, hmw⟩ : ∃ x, z.m.what = x := ⟨_, rfl⟩
        obtain ⟨xn, hxn⟩ : ∃ x, z.n = x := ⟨_, rfl⟩
        have HC2 : Hid (CapB W2 ob [.int .i64 wh, .int .i64 mw, .int .i64 z.m.at_, .slice z.m.A z.m.bl.length z.m.ca, .bool z.m.c.tag, .int .i64 z.m.c.base, .int .i64 z.m.c.top, .int .i64 z.m.c.at_, .int .i64 z.m.c.perms, .int .i64 z.m.c.type, .int .i64 z.m.n, .int .i64 z.p.f, .int .i64 z.p.t, .bool z.p.b, .int .i64 xn]) := hid (by have := HC2.out; unfold WOp.cells at this; rw [hwh, hmw, hxn] at this; exact this)
        clear hwh hmw hxn
        have d0 : World.cell? W2 ⟨ob, 0, none⟩ = some (.int .i64 wh) := HC2.out.2 0 _ rfl
        have dl := HC2.out.1
        go_upto_block 2 with (fail)
        go_cut [14, 15] (fun s14 s15 wx => ∃ (b : Bool) (x : SSt), s14 = .bool b ∧ s15 = .bool b ∧ Hid (DM W0 wx q g s p pq r gb gt gp t u v nb nt x x) ∧ Hid (x.fits (k + 1)))
        case first =>
          by_cases h0 : wh = 0
          · subst h0
            have d1 : World.cell? W2 ⟨ob, 1, none⟩ = some (.int .i64 mw) := HC2.out.2 1 _ rfl
            have dl9 := HC2.out.1
            by_cases hm : mw < 2
            · skip
              have d2 : World.cell? W2 ⟨ob, 2, none⟩ = some (.int .i64 z.m.at_) := HC2.out.2 2 _ rfl
              have d3 : World.cell? W2 ⟨ob, 3, none⟩ = some (.slice z.m.A z.m.bl.length z.m.ca) := HC2.out.2 3 _ rfl
              have dl := HC2.out.1
              go_upto_region 25 with (go_at_call 16; refine (eStoI W0 _ q g s p pq r gb gt gp t u v nb nt x x HP2.out z.m.at_ z.m.A z.m.bl.length z.m.ca z.m.bl rfl (HZG.out.2.1.2.2.1.2.2.1.ext HX1.out) HZG.out.2.1.2.2.1.2.2.2 HZG.out.2.1.2.2.1.1).mono ?_; rintro e W3 ⟨rfl, HQ3⟩)
              have HP3 := hid HQ3.out.1
              have HC3 := hid (HC2.out.only HQ3.out.2 HNG.out.2)
              clear d2 d3 dl HQ3
              have d2 : World.cell? W3 ⟨ob, 2, none⟩ = some (.int .i64 z.m.at_) := HC3.out.2 2 _ rfl
              have d3 : World.cell? W3 ⟨ob, 3, none⟩ = some (.slice z.m.A z.m.bl.length z.m.ca) := HC3.out.2 3 _ rfl
              have dl := HC3.out.1
              go_wp2_with (go_at_call 17; refine (eStoR W0 _ q g s p pq r gb gt gp t u v nb nt (x.sto z.m.at_ z.m.bl) x HP3.out z.m.at_ z.m.A z.m.bl.length z.m.ca z.m.bl rfl (HZG.out.2.1.2.2.1.2.2.1.ext HX1.out) HZG.out.2.1.2.2.1.2.2.2 HZG.out.2.1.2.2.1.1).mono ?_; rintro e W4 ⟨rfl, HQ4⟩)
              have HP4 := hid HQ4.out.1
              clear d2 d3 dl HQ4 HP3 HC3 HP2 HC2
              go_wp2
              go_meet
              exact ⟨_, (x.sto z.m.at_ z.m.bl), (by first | rfl | simp), (by first | rfl | simp), HP4, hid (by have := HFT.out; exact ⟨this.1, by have := this.2; simp only [SSt.sto, SSt.sc, SSt.pa]; omega⟩)⟩
            · skip
              have d2 : World.cell? W2 ⟨ob, 2, none⟩ = some (.int .i64 z.m.at_) := HC2.out.2 2 _ rfl
              have d4 : World.cell? W2 ⟨ob, 4, none⟩ = some (.bool z.m.c.tag) := HC2.out.2 4 _ rfl
              have d5 : World.cell? W2 ⟨ob, 5, none⟩ = some (.int .i64 z.m.c.base) := HC2.out.2 5 _ rfl
              have d6 : World.cell? W2 ⟨ob, 6, none⟩ = some (.int .i64 z.m.c.top) := HC2.out.2 6 _ rfl
              have d7 : World.cell? W2 ⟨ob, 7, none⟩ = some (.int .i64 z.m.c.at_) := HC2.out.2 7 _ rfl
              have d8 : World.cell? W2 ⟨ob, 8, none⟩ = some (.int .i64 z.m.c.perms) := HC2.out.2 8 _ rfl
              have d9 : World.cell? W2 ⟨ob, 9, none⟩ = some (.int .i64 z.m.c.type) := HC2.out.2 9 _ rfl
              have dl := HC2.out.1
              go_upto_region 27 with (go_at_call 18; refine (eScI W0 _ q g s p pq r gb gt gp t u v nb nt x x HP2.out z.m.at_ ⟨z.m.c.tag, z.m.c.base, z.m.c.top, z.m.c.at_, z.m.c.perms, z.m.c.type⟩).mono ?_; rintro e W3 ⟨rfl, HQ3⟩)
              have HP3 := hid HQ3.out.1
              have HC3 := hid (HC2.out.only HQ3.out.2 HNG.out.2)
              clear d2 d4 d5 d6 d7 d8 d9 dl HQ3
              have d2 : World.cell? W3 ⟨ob, 2, none⟩ = some (.int .i64 z.m.at_) := HC3.out.2 2 _ rfl
              have d4 : World.cell? W3 ⟨ob, 4, none⟩ = some (.bool z.m.c.tag) := HC3.out.2 4 _ rfl
              have d5 : World.cell? W3 ⟨ob, 5, none⟩ = some (.int .i64 z.m.c.base) := HC3.out.2 5 _ rfl
              have d6 : World.cell? W3 ⟨ob, 6, none⟩ = some (.int .i64 z.m.c.top) := HC3.out.2 6 _ rfl
              have d7 : World.cell? W3 ⟨ob, 7, none⟩ = some (.int .i64 z.m.c.at_) := HC3.out.2 7 _ rfl
              have d8 : World.cell? W3 ⟨ob, 8, none⟩ = some (.int .i64 z.m.c.perms) := HC3.out.2 8 _ rfl
              have d9 : World.cell? W3 ⟨ob, 9, none⟩ = some (.int .i64 z.m.c.type) := HC3.out.2 9 _ rfl
              have dl := HC3.out.1
              go_wp2_with (go_at_call 19; refine (eScR W0 _ q g s p pq r gb gt gp t u v nb nt (x.sc z.m.at_ ⟨z.m.c.tag, z.m.c.base, z.m.c.top, z.m.c.at_, z.m.c.perms, z.m.c.type⟩) x HP3.out z.m.at_ ⟨z.m.c.tag, z.m.c.base, z.m.c.top, z.m.c.at_, z.m.c.perms, z.m.c.type⟩).mono ?_; rintro e W4 ⟨rfl, HQ4⟩)
              have HP4 := hid HQ4.out.1
              clear d2 d4 d5 d6 d7 d8 d9 dl HQ4 HP3 HC3 HP2 HC2
              go_wp2
              go_meet
              exact ⟨_, (x.sc z.m.at_ ⟨z.m.c.tag, z.m.c.base, z.m.c.top, z.m.c.at_, z.m.c.perms, z.m.c.type⟩), (by first | rfl | simp), (by first | rfl | simp), HP4, hid (by have := HFT.out; exact ⟨this.1, by have := this.2; simp only [SSt.sto, SSt.sc, SSt.pa]; omega⟩)⟩
          · by_cases h1 : wh = 1
            · subst h1
              have d11 : World.cell? W2 ⟨ob, 11, none⟩ = some (.int .i64 z.p.f) := HC2.out.2 11 _ rfl
              have d12 : World.cell? W2 ⟨ob, 12, none⟩ = some (.int .i64 z.p.t) := HC2.out.2 12 _ rfl
              have d13 : World.cell? W2 ⟨ob, 13, none⟩ = some (.bool z.p.b) := HC2.out.2 13 _ rfl
              have dl := HC2.out.1
              go_upto_region 30 with (go_at_call 20; refine (ePaI W0 _ q g s p pq r gb gt gp t u v nb nt x x HP2.out z.p.f z.p.t z.p.b).mono ?_; rintro e W3 ⟨rfl, HQ3⟩)
              have HP3 := hid HQ3.out.1
              have HC3 := hid (HC2.out.only HQ3.out.2 HNG.out.2)
              clear d11 d12 d13 dl HQ3
              have d11 : World.cell? W3 ⟨ob, 11, none⟩ = some (.int .i64 z.p.f) := HC3.out.2 11 _ rfl
              have d12 : World.cell? W3 ⟨ob, 12, none⟩ = some (.int .i64 z.p.t) := HC3.out.2 12 _ rfl
              have d13 : World.cell? W3 ⟨ob, 13, none⟩ = some (.bool z.p.b) := HC3.out.2 13 _ rfl
              have dl := HC3.out.1
              go_wp2_with (go_at_call 21; refine (ePaR W0 _ q g s p pq r gb gt gp t u v nb nt (x.pa z.p.f z.p.t z.p.b) x HP3.out z.p.f z.p.t z.p.b).mono ?_; rintro e W4 ⟨rfl, HQ4⟩)
              have HP4 := hid HQ4.out.1
              clear d11 d12 d13 dl HQ4 HP3 HC3 HP2 HC2
              go_wp2
              go_meet
              exact ⟨_, (x.pa z.p.f z.p.t z.p.b), (by first | rfl | simp), (by first | rfl | simp), HP4, hid (by have := HFT.out; exact ⟨this.1, by have := this.2; simp only [SSt.sto, SSt.sc, SSt.pa]; omega⟩)⟩
            · by_cases h2 : wh = 2
              · subst h2
                go_upto_region 33 with (go_at_call 22; refine (eBegI W0 _ q g s p pq r gb gt gp t u v nb nt x x HP2.out).mono ?_; rintro e W3 ⟨rfl, HQ3⟩)
                have HP3 := hid HQ3.out.1
                have HC3 := hid (HC2.out.only HQ3.out.2 HNG.out.2)
                clear HQ3
                go_wp2_with (go_at_call 23; refine (eBegR W0 _ q g s p pq r gb gt gp t u v nb nt x.beg x HP3.out).mono ?_; rintro e W4 ⟨rfl, HQ4⟩)
                have HP4 := hid HQ4.out.1
                clear HQ4 HP3 HC3 HP2 HC2
                go_wp2
                go_meet
                exact ⟨_, x.beg, (by first | rfl | simp), (by first | rfl | simp), HP4, hid (SSt.fits_beg HFT.out)⟩
              · skip
                have d14 : World.cell? W2 ⟨ob, 14, none⟩ = some (.int .i64 xn) := HC2.out.2 14 _ rfl
                have dl := HC2.out.1
                go_upto_region 20 with (go_at_call 24; refine (eStI W0 _ q g s p pq r gb gt gp t u v nb nt x x HP2.out xn (HFT.out.1) (by have := HFT.out.2; have := HK2.out; omega)).mono ?_; rintro e W3 ⟨rfl, HQ3⟩)
                have HP3 := hid HQ3.out.1
                have HC3 := hid (HC2.out.only HQ3.out.2 HNG.out.2)
                clear d14 dl HQ3
                have d14 : World.cell? W3 ⟨ob, 14, none⟩ = some (.int .i64 xn) := HC3.out.2 14 _ rfl
                have dl := HC3.out.1
                go_upto_region 21 with (go_at_call 25; refine (eStR W0 _ q g s p pq r gb gt gp t u v nb nt (x.step xn) x HP3.out xn (HFT.out.1) (by have := HFT.out.2; have := HK2.out; omega) HRG.out).mono ?_; rintro e W4 ⟨rfl, HQ4⟩)
                have HP4 := hid HQ4.out.1
                clear d14 dl HQ4 HP3 HC3 HP2 HC2
                go_wp2
                go_meet
                exact ⟨_, (x.step xn), (by first | rfl | simp), (by first | rfl | simp), HP4, hid (SSt.fits_step HFT.out xn)⟩
        case rest =>
          clear HP2 HC2 HNG d0 dl HFT
          obtain ⟨bb, x, rfl, rfl, HPw, HFT⟩ := hcut
          obtain ⟨tl, htl⟩ : ∃ l, (whichN x.T 64).map (16 * ·) = l := ⟨_, rfl⟩
          have HTL := hid htl
          obtain ⟨kt, hkt0⟩ : ∃ k, tl.length = k := ⟨_, rfl⟩
          have HKT := hid hkt0
          have hkt8 : kt ≤ 16777216 := by have h1 := whichN_len x.T 64; rw [← hkt0, ← htl, List.length_map]; omega
          clear htl hkt0
          obtain ⟨dl, hdl⟩ : ∃ l, whichN x.D 4 = l := ⟨_, rfl⟩
          have HDL := hid hdl
          obtain ⟨kd, hkd0⟩ : ∃ k, dl.length = k := ⟨_, rfl⟩
          have HKD := hid hkd0
          have hkd8 : kd ≤ 16777216 := by have h1 := whichN_len x.D 4; rw [← hkd0, ← hdl]; omega
          clear hdl hkd0
          go_upto_region 34 with (fail)
          refine wp_region_step (.rd 0 (.rd 1 (.rd 2 (.rd 3 (.rd 4 (.rd 6 (.ac 5 (.ac 7 (.rd 8 (.rd 9 (.rd 10 (.rd 11 (.rd 13 (.ac 12 (.ac 14 (.rd 15 (.rd 16 (.rd 17 (.rd 18 (.rd 20 (.ac 19 (.ac 21 (.rd 22 (.rd 23 (.rd 24 (.rd 25 (.rd 27 (.ac 26 (.ac 28 (.ac 29 (.rd 30 (.rd 31 (.rd 32 (.rd 33 (.rd 35 (.ac 34 (.ac 36 (.ac 37 (.rd 38 (.rd 39 (.rd 40 (.rd 41 (.rd 42 (.rd 44 (.rd 45 (.ac 43 (.ac 46 (.rd 47 (.rd 48 .done))))))))))))))))))))))))))))))))))))))))))))))))) (by kernel_rfl) (by kernel_rfl) (fun _ _ d _ _ h => by cases d <;> exact h) (by simp only [Ord.map, nthOp, List.append]; rfl) ?_
          intro d0
          repeat' (first | (refine step_read (by rfl) (fun K hK => ?_); refine quiet_run (.bool false) (cap_ne ⟨t1 && !hitsP 64 x.P t1 b1 tp1, b1, tp1, at1, pm1, ty1⟩ _ (.tmp 184) (.tmp 187) 24 _ rfl rfl rfl) ?_; refine hK _ ?_; clear hK K; simp only [Act.put, List.setIfInBounds_toArray, List.set_cons_zero, List.set_cons_succ]) | (refine step_read (by rfl) (fun K hK => ?_); go_big_quiet_op; refine hK _ ?_; clear hK K) | (refine step_act (by rfl) (fun K hK => ?_); go_wp2_with (first | (go_at_call 26; with_reducible refine (dRunsI W0 _ q g s p pq r gb gt gp t u v nb nt x x (HPw.out.ext (by repeat (first | (with_reducible exact Ext.refl _) | (with_reducible refine Ext.undrew ?_) | (with_reducible refine Ext.grow ?_ _) | (with_reducible refine Ext.drew ?_) | (with_reducible refine Ext.drewN ?_ _) | (with_reducible refine Ext.alloc ?_ _) | (with_reducible assumption) | ((with_reducible refine Ext.setCell ?_ ?_ _); rotate_left; (first | exact Nat.le_refl _ | ((try dsimp only); (try simp only [World.size_alloc, grow_size, World.size_setCell]); omega))))))).mono ?_; rintro e Wq ⟨rfl, rfl⟩) | (go_at_call 27; with_reducible refine (dRunsR W0 _ q g s p pq r gb gt gp t u v nb nt x x (HPw.out.ext (by repeat (first | (with_reducible exact Ext.refl _) | (with_reducible refine Ext.undrew ?_) | (with_reducible refine Ext.grow ?_ _) | (with_reducible refine Ext.drew ?_) | (with_reducible refine Ext.drewN ?_ _) | (with_reducible refine Ext.alloc ?_ _) | (with_reducible assumption) | ((with_reducible refine Ext.setCell ?_ ?_ _); rotate_left; (first | exact Nat.le_refl _ | ((try dsimp only); (try simp only [World.size_alloc, grow_size, World.size_setCell]); omega))))))).mono ?_; rintro e Wq ⟨rfl, rfl⟩) | (go_at_call 28; with_reducible refine (dLeftI W0 _ q g s p pq r gb gt gp t u v nb nt x x (HPw.out.ext (by repeat (first | (with_reducible exact Ext.refl _) | (with_reducible refine Ext.undrew ?_) | (with_reducible refine Ext.grow ?_ _) | (with_reducible refine Ext.drew ?_) | (with_reducible refine Ext.drewN ?_ _) | (with_reducible refine Ext.alloc ?_ _) | (with_reducible assumption) | ((with_reducible refine Ext.setCell ?_ ?_ _); rotate_left; (first | exact Nat.le_refl _ | ((try dsimp only); (try simp only [World.size_alloc, grow_size, World.size_setCell]); omega))))))).mono ?_; rintro e Wq ⟨rfl, rfl⟩) | (go_at_call 29; with_reducible refine (dLeftR W0 _ q g s p pq r gb gt gp t u v nb nt x x (HPw.out.ext (by repeat (first | (with_reducible exact Ext.refl _) | (with_reducible refine Ext.undrew ?_) | (with_reducible refine Ext.grow ?_ _) | (with_reducible refine Ext.drew ?_) | (with_reducible refine Ext.drewN ?_ _) | (with_reducible refine Ext.alloc ?_ _) | (with_reducible assumption) | ((with_reducible refine Ext.setCell ?_ ?_ _); rotate_left; (first | exact Nat.le_refl _ | ((try dsimp only); (try simp only [World.size_alloc, grow_size, World.size_setCell]); omega))))))).mono ?_; rintro e Wq ⟨rfl, rfl⟩) | (go_at_call 30; with_reducible refine (dGoneI W0 _ q g s p pq r gb gt gp t u v nb nt x x (HPw.out.ext (by repeat (first | (with_reducible exact Ext.refl _) | (with_reducible refine Ext.undrew ?_) | (with_reducible refine Ext.grow ?_ _) | (with_reducible refine Ext.drew ?_) | (with_reducible refine Ext.drewN ?_ _) | (with_reducible refine Ext.alloc ?_ _) | (with_reducible assumption) | ((with_reducible refine Ext.setCell ?_ ?_ _); rotate_left; (first | exact Nat.le_refl _ | ((try dsimp only); (try simp only [World.size_alloc, grow_size, World.size_setCell]); omega))))))).mono ?_; rintro e Wq ⟨rfl, rfl⟩) | (go_at_call 31; with_reducible refine (dGoneR W0 _ q g s p pq r gb gt gp t u v nb nt x x (HPw.out.ext (by repeat (first | (with_reducible exact Ext.refl _) | (with_reducible refine Ext.undrew ?_) | (with_reducible refine Ext.grow ?_ _) | (with_reducible refine Ext.drew ?_) | (with_reducible refine Ext.drewN ?_ _) | (with_reducible refine Ext.alloc ?_ _) | (with_reducible assumption) | ((with_reducible refine Ext.setCell ?_ ?_ _); rotate_left; (first | exact Nat.le_refl _ | ((try dsimp only); (try simp only [World.size_alloc, grow_size, World.size_setCell]); omega))))))).mono ?_; rintro e Wq ⟨rfl, rfl⟩) | (go_at_call 33; refine (dTagsI W0 _ q g s p pq r gb gt gp t u v nb nt x x (HPw.out.ext (by repeat (first | (with_reducible exact Ext.refl _) | (with_reducible refine Ext.undrew ?_) | (with_reducible refine Ext.grow ?_ _) | (with_reducible refine Ext.drew ?_) | (with_reducible refine Ext.drewN ?_ _) | (with_reducible refine Ext.alloc ?_ _) | (with_reducible assumption) | ((with_reducible refine Ext.setCell ?_ ?_ _); rotate_left; (first | exact Nat.le_refl _ | ((try dsimp only); (try simp only [World.size_alloc, grow_size, World.size_setCell]); omega)))))) tl kt HTL.out HKT.out).mono ?_; rintro e Wa ⟨Aa, caa, rfl, HRa, HXa⟩; have hxa := HXa.out; have HPa := hid ((HPw.out.ext (by repeat (first | (with_reducible exact Ext.refl _) | (with_reducible refine Ext.undrew ?_) | (with_reducible refine Ext.grow ?_ _) | (with_reducible refine Ext.drew ?_) | (with_reducible refine Ext.drewN ?_ _) | (with_reducible refine Ext.alloc ?_ _) | (with_reducible assumption) | ((with_reducible refine Ext.setCell ?_ ?_ _); rotate_left; (first | exact Nat.le_refl _ | ((try dsimp only); (try simp only [World.size_alloc, grow_size, World.size_setCell]); omega))))) : DM W0 _ q g s p pq r gb gt gp t u v nb nt x x).ext hxa)) | (go_at_call 34; refine (dTagsR W0 _ q g s p pq r gb gt gp t u v nb nt x x HPa.out tl kt HTL.out HKT.out).mono ?_; rintro e Wb ⟨Ab, cab, rfl, HRb, HXb⟩; have hxb := HXb.out; have HPb := hid (HPa.out.ext hxb)) | (go_at_call 32; (with_reducible refine (tsame_ Aa Ab kt caa cab tl _ (HRa.out.ext hxb) HRb.out HKT.out.symm hkt8).mono ?_); rintro e Wc ⟨rfl, hxc⟩; have HPc := hid (HPb.out.ext hxc)) | (go_at_call 35; refine (dDirtyI W0 _ q g s p pq r gb gt gp t u v nb nt x x HPc.out dl kd HDL.out HKD.out).mono ?_; rintro e Wd ⟨Ad, cad, rfl, HRd, HXd⟩; have hxd := HXd.out; have HPd := hid (HPc.out.ext hxd)) | (go_at_call 36; refine (dDirtyR W0 _ q g s p pq r gb gt gp t u v nb nt x x HPd.out dl kd HDL.out HKD.out).mono ?_; rintro e We ⟨Ae, cae, rfl, HRe, HXe⟩; have hxe := HXe.out; have HPe := hid (HPd.out.ext hxe)) | (go_at_call 32; (with_reducible refine (tsame_ Ad Ae kd cad cae dl _ (HRd.out.ext hxe) HRe.out HKD.out.symm hkd8).mono ?_); rintro e Wf ⟨rfl, hxf⟩; have HPf := hid (HPe.out.ext hxf); have HBf := hid (HBX.out.ext HPf.out.base); have f0 : World.cell? _ ⟨cb, 0, none⟩ = some (.bool t1) := HBf.out.2 0 _ rfl; have f1 : World.cell? _ ⟨cb, 1, none⟩ = some (.int .i64 b1) := HBf.out.2 1 _ rfl; have f2 : World.cell? _ ⟨cb, 2, none⟩ = some (.int .i64 tp1) := HBf.out.2 2 _ rfl; have f3 : World.cell? _ ⟨cb, 3, none⟩ = some (.int .i64 at1) := HBf.out.2 3 _ rfl; have f4 : World.cell? _ ⟨cb, 4, none⟩ = some (.int .i64 pm1) := HBf.out.2 4 _ rfl; have f5 : World.cell? _ ⟨cb, 5, none⟩ = some (.int .i64 ty1) := HBf.out.2 5 _ rfl; have fl := HBf.out.1) | (go_at_call 37; refine (dBarI W0 _ q g s p pq r gb gt gp t u v nb nt x x HPf.out ⟨t1, b1, tp1, at1, pm1, ty1⟩ HB1.out).mono ?_; rintro e Wg ⟨rfl, hxg⟩; have HPg := hid (HPf.out.ext hxg)) | (go_at_call 38; refine (dBarR W0 _ q g s p pq r gb gt gp t u v nb nt x x HPg.out ⟨t1, b1, tp1, at1, pm1, ty1⟩ HB1.out).mono ?_; rintro e Wh ⟨rfl, hxh⟩; have HPh := hid (HPg.out.ext hxh))); refine ⟨_, (by repeat (first | (with_reducible exact Ext.refl _) | (with_reducible refine Ext.undrew ?_) | (with_reducible refine Ext.grow ?_ _) | (with_reducible refine Ext.drew ?_) | (with_reducible refine Ext.drewN ?_ _) | (with_reducible refine Ext.alloc ?_ _) | (with_reducible assumption) | ((with_reducible refine Ext.setCell ?_ ?_ _); rotate_left; (first | exact Nat.le_refl _ | ((try dsimp only); (try simp only [World.size_alloc, grow_size, World.size_setCell]); omega))))), Ext.refl _, ?_⟩) | refine step_br ?_ ?_)
          all_goals refine step_nil ?_
          go_wp2
          go_roundw
          case rel => exact ⟨k + 1, x, by omega, by go_num, HPh, HFT⟩
          case measure => simp [intOf]; omega
      · obtain rfl : k = zs0.length := by omega
        have hk1 : ¬ (zs0.length : Int) < (zs0.length : Int) := by omega
        go_wp2
        go_ret
        exact ⟨by first | rfl | simp, HX1.out.trans HPr.out.base⟩
end sweepPlays

end Go.Proofs.Ythamfkbopjagdaa
