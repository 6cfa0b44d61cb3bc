/- Layer 17: Same, of alike ones. -/
import Derived.Test.YtgldlkoohfclpaaImU
import Derived.Test.YtgldlkoohfclpaaImM
namespace Go.Proofs.Ytgldlkoohfclpaa
set_option linter.unusedSimpArgs false
set_option linter.unusedVariables false
open Go.RowKit

set_option maxRecDepth 100000 in
set_option maxHeartbeats 4000000 in
theorem same_ (x y : Img) (w : World) (hx : ImgAt w x) (hy : ImgAt w y) (he : x.strip = y.strip) (hne : ∀ d ∈ x.comps, 0 < d.bl.length) (hc : x.comps.length ≤ 1000000) (hl : x.links.length ≤ 1000000) (hs : x.shares.length ≤ 1000000) : Calls Try.prog 18 #[.agg #[.bool x.strict, .int .i64 x.heap, .int .i64 x.full, .slice x.C x.comps.length x.cc, .slice x.L x.links.length x.lc, .slice x.S x.shares.length x.sc], .agg #[.bool y.strict, .int .i64 y.heap, .int .i64 y.full, .slice y.C y.comps.length y.cc, .slice y.L y.links.length y.lc, .slice y.S y.shares.length y.sc]] w fun e w' => e = .returned (.bool true) ∧ Ext w w' := by
  obtain ⟨st, hp, fl, C, cc, cs, L, lc, ls, S, sc, ss⟩ := x
  obtain ⟨st2, hp2, fl2, C2, cc2, ds, L2, lc2, ls2, S2, sc2, ss2⟩ := y
  simp only [Img.strip, Img.mk.injEq, true_and] at he
  obtain ⟨rfl, rfl, rfl, hcs, rfl, rfl⟩ := he
  have HC1 := hid (show RdF Cmp.cells w C cs from hx.c)
  have HC2 := hid (show RdF Cmp.cells w C2 ds from hy.c)
  have HL1 := hid (show RdF Lnk.cells w L ls from hx.l)
  have HL2 := hid (show RdF Lnk.cells w L2 ls from hy.l)
  have HS1 := hid (show RdF Shr.cells w S ss from hx.s)
  have HS2 := hid (show RdF Shr.cells w S2 ss from hy.s)
  have HBX := hid (show ∀ d ∈ cs, RdB w d.A d.bl from fun d hd => (hx.cb d hd).1)
  have HBY := hid (show ∀ d ∈ ds, RdB w d.A d.bl from fun d hd => (hy.cb d hd).1)
  have HNE := hid (show ∀ d ∈ cs, 0 < d.bl.length from hne)
  have hll : ds.length = cs.length := by have := congrArg List.length hcs; simpa using this.symm
  have HK := hid (show ∀ (k : Nat) (d d2 : Cmp), cs[k]? = some d → ds[k]? = some d2 → d.bl = d2.bl ∧ d.data = d2.data from fun k d d2 h1 h2 => by
    have h3 := congrArg (fun l => l[k]?) hcs
    simp only [List.getElem?_map, h1, h2, Option.map_some, Option.some.injEq] at h3
    unfold Cmp.strip at h3
    injection h3 with _ _ h4 h5
    exact ⟨h4, h5⟩)
  dsimp only at hc hl hs ⊢
  rw [hll]
  obtain ⟨n, hn⟩ : ∃ y, cs.length = y := ⟨_, rfl⟩
  obtain ⟨nl, hnl⟩ : ∃ y, ls.length = y := ⟨_, rfl⟩
  obtain ⟨ns, hns⟩ : ∃ y, ss.length = y := ⟨_, rfl⟩
  rw [hn] at hc hll ⊢
  rw [hnl] at hl ⊢
  rw [hns] at hs ⊢
  have HN := hid hn
  have HN2 := hid hll
  have HNL := hid hnl
  have HNS := hid hns
  clear hn hll hnl hns hx hy hne hcs
  go_enter Try.func18, Try.ntmps18
  go_upto_region 1 with (fail)
  refine wp_gen (fun V => Hid (Ext w V) ∧ Hid (Row V w.heap.size 0 [.bool st, .int .i64 hp, .int .i64 fl, .slice C n cc, .slice L nl lc, .slice S ns sc]) ∧ Hid (Row V (w.heap.size + 1) 0 [.bool st, .int .i64 hp, .int .i64 fl, .slice C2 n cc2, .slice L2 nl lc2, .slice S2 ns sc2])) ⟨hid (by repeat (first | (with_reducible exact Ext.refl _) | (with_reducible refine Ext.undrew ?_) | (with_reducible refine Ext.grow ?_ _) | (with_reducible refine Ext.drew ?_) | (with_reducible refine Ext.drewN ?_ _) | (with_reducible refine Ext.alloc ?_ _) | (with_reducible assumption) | ((with_reducible refine Ext.setCell ?_ ?_ _); rotate_left; (first | exact Nat.le_refl _ | ((try dsimp only); (try simp only [World.size_alloc, grow_size, World.size_setCell]); omega))))), hid ((Row.new w _ _).ext ((Ext.refl _).alloc _)), hid ?_⟩ ?_
  · have h9 := Row.new (w.alloc (.cells #[.bool st, .int .i64 hp, .int .i64 fl, .slice C n cc, .slice L nl lc, .slice S ns sc] 26)) #[.bool st, .int .i64 hp, .int .i64 fl, .slice C2 n cc2, .slice L2 nl lc2, .slice S2 ns sc2] 26
    rw [World.size_alloc] at h9
    exact h9
  rintro V ⟨HV, HR1, HR2⟩
  obtain ⟨p1, hp1⟩ : ∃ y, w.heap.size = y := ⟨_, rfl⟩
  rw [hp1] at HR1 HR2 ⊢
  obtain ⟨p2, hp2⟩ : ∃ y, p1 + 1 = y := ⟨_, rfl⟩
  rw [hp2] at HR2 ⊢
  clear hp1 hp2
  have HW := hid (Ext.refl V)
  have q1 := HR1.out
  have q1l := q1.lt
  have q1c0 := q1.range 0 _ rfl
  have q1c1 := q1.range 1 _ rfl
  have q1c2 := q1.range 2 _ rfl
  have q1c3 := q1.range 3 _ rfl
  have q1c4 := q1.range 4 _ rfl
  have q1c5 := q1.range 5 _ rfl
  simp only [Nat.zero_add] at q1c1 q1c2 q1c3 q1c4 q1c5
  clear q1
  have q2 := HR2.out
  have q2l := q2.lt
  have q2c0 := q2.range 0 _ rfl
  have q2c1 := q2.range 1 _ rfl
  have q2c2 := q2.range 2 _ rfl
  have q2c3 := q2.range 3 _ rfl
  have q2c4 := q2.range 4 _ rfl
  have q2c5 := q2.range 5 _ rfl
  simp only [Nat.zero_add] at q2c1 q2c2 q2c3 q2c4 q2c5
  clear q2
  go_wp2
  clear q1l q1c0 q1c1 q1c2 q1c3 q1c4 q1c5
  clear q2l q2c0 q2c1 q2c2 q2c3 q2c4 q2c5
  go_loopw [5] (fun i wr => ∃ (k : Nat), k ≤ n ∧ i = .int .i64 k ∧ Hid (Ext V wr)) (fun i _ => n - (intOf i).toNat)
  case atStart => exact ⟨0, Nat.zero_le _, rfl, HW⟩
  case round =>
    clear HW
    obtain ⟨k, hk, rfl, HW⟩ := hrel
    have q1 := HR1.out.ext HW.out
    have q1l := q1.lt
    have q1c0 := q1.range 0 _ rfl
    have q1c1 := q1.range 1 _ rfl
    have q1c2 := q1.range 2 _ rfl
    have q1c3 := q1.range 3 _ rfl
    have q1c4 := q1.range 4 _ rfl
    have q1c5 := q1.range 5 _ rfl
    simp only [Nat.zero_add] at q1c1 q1c2 q1c3 q1c4 q1c5
    clear q1
    have q2 := HR2.out.ext HW.out
    have q2l := q2.lt
    have q2c0 := q2.range 0 _ rfl
    have q2c1 := q2.range 1 _ rfl
    have q2c2 := q2.range 2 _ rfl
    have q2c3 := q2.range 3 _ rfl
    have q2c4 := q2.range 4 _ rfl
    have q2c5 := q2.range 5 _ rfl
    simp only [Nat.zero_add] at q2c1 q2c2 q2c3 q2c4 q2c5
    clear q2
    by_cases hlt : k < n
    · have hk1 : (k : Int) < (n : Int) := by omega
      have hk0 : (0 : Int) ≤ (k : Int) := by omega
      have hkl : k < cs.length := by rw [HN.out]; exact hlt
      have hkm : k < ds.length := by rw [HN2.out]; exact hlt
      obtain ⟨d, hd⟩ : ∃ y, cs[k] = y := ⟨_, rfl⟩
      obtain ⟨d2, hd2⟩ : ∃ y, ds[k] = y := ⟨_, rfl⟩
      obtain ⟨b1, o1, eA, hb1, hr1⟩ := (HC1.out.ext (HV.out.trans HW.out)).elem cmp_len hkl d hd
      obtain ⟨b2, o2, eB, hb2, hr2⟩ := (HC2.out.ext (HV.out.trans HW.out)).elem cmp_len hkm d2 hd2
      obtain ⟨k1, k2⟩ := HK.out k d d2 (by rw [List.getElem?_eq_getElem hkl, hd]) (by rw [List.getElem?_eq_getElem hkm, hd2])
      have HB1 := hid ((rdB_by (HBX.out d (hd ▸ List.getElem_mem _))).ext (HV.out.trans HW.out))
      have HB2 := hid ((rdB_by (HBY.out d2 (hd2 ▸ List.getElem_mem _))).ext (HV.out.trans HW.out))
      have HBP := hid (HNE.out d (hd ▸ List.getElem_mem _))
      have e0 := hr1 0 _ rfl
      have e1 := hr1 1 _ rfl
      have f0 := hr2 0 _ rfl
      have f1 := hr2 1 _ rfl
      simp only [Nat.add_zero] at e0 f0
      rw [← k1] at HB2 f0
      rw [← k2] at f1
      obtain ⟨bl, hbl⟩ : ∃ y, d.bl = y := ⟨_, rfl⟩
      obtain ⟨dd, hdd⟩ : ∃ y, d.data = y := ⟨_, rfl⟩
      rw [hbl] at HB1 HB2 HBP e0 f0
      rw [hdd] at e1 f1
      obtain ⟨bn, hbn⟩ : ∃ y, bl.length = y := ⟨_, rfl⟩
      have HBN := hid hbn
      rw [hbn] at e0 f0 HBP
      replace HB1 := hid (by_rdB HB1.out)
      replace HB2 := hid (by_rdB HB2.out)
      subst eA
      subst eB
      clear hkl hkm hd hd2 hr1 hr2 k1 k2 hbl hdd hbn
      go_upto_region 6 with (fail)
      clear q1l q1c0 q1c1 q1c2 q1c3 q1c4 q1c5
      clear q2l q2c0 q2c1 q2c2 q2c3 q2c4 q2c5
      refine wp_region_step (.rd 0 (.rd 1 (.rd 2 (.rd 3 (.rd 4 (.rd 5 (.rd 6 (.rd 7 (.rd 8 (.rd 9 (.rd 10 (.rd 11 (.rd 12 (.rd 13 (.rd 14 (.rd 15 (.rd 16 (.rd 17 (.rd 18 (.rd 19 (.rd 20 (.rd 21 (.rd 22 (.rd 23 (.rd 24 (.rd 25 (.rd 26 (.rd 27 (.rd 28 (.rd 29 .done)))))))))))))))))))))))))))))) (by kernel_rfl) (by kernel_rfl) (fun _ _ d _ _ h => by cases d <;> exact h) (by simp only [Ord.map, nthOp, List.append]; rfl) ?_
      intro d0
      have HU0 := hid (Ext.grow (Ext.refl wr) d0)
      generalize Go.Proofs.Ytgldlkoohfclpaa.grow wr d0 = U0 at HU0 ⊢
      have hexu := HW.out.trans HU0.out
      have q1 := HR1.out.ext hexu
      have q1l := q1.lt
      have q1c0 := q1.range 0 _ rfl
      have q1c1 := q1.range 1 _ rfl
      have q1c2 := q1.range 2 _ rfl
      have q1c3 := q1.range 3 _ rfl
      have q1c4 := q1.range 4 _ rfl
      have q1c5 := q1.range 5 _ rfl
      simp only [Nat.zero_add] at q1c1 q1c2 q1c3 q1c4 q1c5
      clear q1
      have q2 := HR2.out.ext hexu
      have q2l := q2.lt
      have q2c0 := q2.range 0 _ rfl
      have q2c1 := q2.range 1 _ rfl
      have q2c2 := q2.range 2 _ rfl
      have q2c3 := q2.range 3 _ rfl
      have q2c4 := q2.range 4 _ rfl
      have q2c5 := q2.range 5 _ rfl
      simp only [Nat.zero_add] at q2c1 q2c2 q2c3 q2c4 q2c5
      clear q2
      have hbl1 := Nat.lt_of_lt_of_le hb1 HU0.out.size
      have hbl2 := Nat.lt_of_lt_of_le hb2 HU0.out.size
      have g0 := (HU0.out.cells _ _ hb1).trans e0
      have g1 := (HU0.out.cells _ _ hb1).trans e1
      have k0 := (HU0.out.cells _ _ hb2).trans f0
      have k1 := (HU0.out.cells _ _ hb2).trans f1
      clear hexu
      refine step_read (by rfl) (fun K hK => ?_)
      go_big_quiet_op
      refine hK _ ?_
      clear hK K
      refine step_read (by rfl) (fun K hK => ?_)
      go_big_quiet_op
      refine hK _ ?_
      clear hK K
      refine step_read (by rfl) (fun K hK => ?_)
      go_big_quiet_op
      refine hK _ ?_
      clear hK K
      refine step_read (by rfl) (fun K hK => ?_)
      go_big_quiet_op
      refine hK _ ?_
      clear hK K
      refine step_read (by rfl) (fun K hK => ?_)
      go_big_quiet_op
      refine hK _ ?_
      clear hK K
      refine step_read (by rfl) (fun K hK => ?_)
      go_big_quiet_op
      refine hK _ ?_
      clear hK K
      refine step_read (by rfl) (fun K hK => ?_)
      refine quiet_str 27 9 5 (.tmp 66) rfl Try.underlying27 Try.underlying5 Try.underlying9 d.A d.ca bn bl rfl HBN.out.symm (HB1.out.ext HU0.out) (fun e => by have := HBP.out; rw [e] at HBN; have := HBN.out; simp at this; omega) ?_
      refine hK _ ?_
      clear hK K
      simp only [Act.put, List.setIfInBounds_toArray, List.set_cons_zero, List.set_cons_succ]
      refine step_read (by rfl) (fun K hK => ?_)
      go_big_quiet_op
      refine hK _ ?_
      clear hK K
      refine step_read (by rfl) (fun K hK => ?_)
      go_big_quiet_op
      refine hK _ ?_
      clear hK K
      refine step_read (by rfl) (fun K hK => ?_)
      go_big_quiet_op
      refine hK _ ?_
      clear hK K
      refine step_read (by rfl) (fun K hK => ?_)
      go_big_quiet_op
      refine hK _ ?_
      clear hK K
      refine step_read (by rfl) (fun K hK => ?_)
      go_big_quiet_op
      refine hK _ ?_
      clear hK K
      refine step_read (by rfl) (fun K hK => ?_)
      go_big_quiet_op
      refine hK _ ?_
      clear hK K
      refine step_read (by rfl) (fun K hK => ?_)
      refine quiet_str 27 9 5 (.tmp 73) rfl Try.underlying27 Try.underlying5 Try.underlying9 d2.A d2.ca bn bl rfl HBN.out.symm (HB2.out.ext HU0.out) (fun e => by have := HBP.out; rw [e] at HBN; have := HBN.out; simp at this; omega) ?_
      refine hK _ ?_
      clear hK K
      simp only [Act.put, List.setIfInBounds_toArray, List.set_cons_zero, List.set_cons_succ]
      refine step_read (by rfl) (fun K hK => ?_)
      refine quiet_runD 75 rfl (.bool false) (fun w => by go_simp) ?_
      refine hK _ ?_
      clear hK K
      simp only [Act.put, List.setIfInBounds_toArray, List.set_cons_zero, List.set_cons_succ]
      refine step_read (by rfl) (fun K hK => ?_)
      go_big_quiet_op
      refine hK _ ?_
      clear hK K
      refine step_read (by rfl) (fun K hK => ?_)
      go_big_quiet_op
      refine hK _ ?_
      clear hK K
      refine step_read (by rfl) (fun K hK => ?_)
      go_big_quiet_op
      refine hK _ ?_
      clear hK K
      refine step_read (by rfl) (fun K hK => ?_)
      go_big_quiet_op
      refine hK _ ?_
      clear hK K
      refine step_read (by rfl) (fun K hK => ?_)
      go_big_quiet_op
      refine hK _ ?_
      clear hK K
      refine step_read (by rfl) (fun K hK => ?_)
      go_big_quiet_op
      refine hK _ ?_
      clear hK K
      refine step_read (by rfl) (fun K hK => ?_)
      go_big_quiet_op
      refine hK _ ?_
      clear hK K
      refine step_read (by rfl) (fun K hK => ?_)
      go_big_quiet_op
      refine hK _ ?_
      clear hK K
      refine step_read (by rfl) (fun K hK => ?_)
      go_big_quiet_op
      refine hK _ ?_
      clear hK K
      refine step_read (by rfl) (fun K hK => ?_)
      go_big_quiet_op
      refine hK _ ?_
      clear hK K
      refine step_read (by rfl) (fun K hK => ?_)
      go_big_quiet_op
      refine hK _ ?_
      clear hK K
      refine step_read (by rfl) (fun K hK => ?_)
      go_big_quiet_op
      refine hK _ ?_
      clear hK K
      refine step_read (by rfl) (fun K hK => ?_)
      go_big_quiet_op
      refine hK _ ?_
      clear hK K
      refine step_read (by rfl) (fun K hK => ?_)
      refine quiet_runD 89 rfl (.bool false) (fun w => by go_simp) ?_
      refine hK _ ?_
      clear hK K
      simp only [Act.put, List.setIfInBounds_toArray, List.set_cons_zero, List.set_cons_succ]
      refine step_read (by rfl) (fun K hK => ?_)
      go_big_quiet_op
      refine hK _ ?_
      clear hK K
      refine step_nil ?_
      replace HW := hid (HW.out.trans HU0.out)
      go_wp2
      go_roundw
      case rel => exact ⟨k + 1, by omega, by go_num, HW⟩
      case measure => simp [intOf]; omega
    · obtain rfl : n = k := by omega
      have hk1 : ¬ (n : Int) < (n : Int) := by omega
      go_upto_region 8 with (fail)
      clear q1l q1c0 q1c1 q1c2 q1c3 q1c4 q1c5
      clear q2l q2c0 q2c1 q2c2 q2c3 q2c4 q2c5
      have q1 := HR1.out.ext HW.out
      have q1l := q1.lt
      have q1c0 := q1.range 0 _ rfl
      have q1c1 := q1.range 1 _ rfl
      have q1c2 := q1.range 2 _ rfl
      have q1c3 := q1.range 3 _ rfl
      have q1c4 := q1.range 4 _ rfl
      have q1c5 := q1.range 5 _ rfl
      simp only [Nat.zero_add] at q1c1 q1c2 q1c3 q1c4 q1c5
      clear q1
      have q2 := HR2.out.ext HW.out
      have q2l := q2.lt
      have q2c0 := q2.range 0 _ rfl
      have q2c1 := q2.range 1 _ rfl
      have q2c2 := q2.range 2 _ rfl
      have q2c3 := q2.range 3 _ rfl
      have q2c4 := q2.range 4 _ rfl
      have q2c5 := q2.range 5 _ rfl
      simp only [Nat.zero_add] at q2c1 q2c2 q2c3 q2c4 q2c5
      clear q2
      go_wp2
      clear q1l q1c0 q1c1 q1c2 q1c3 q1c4 q1c5
      clear q2l q2c0 q2c1 q2c2 q2c3 q2c4 q2c5
      go_loopw [6] (fun i wr => ∃ (k : Nat), k ≤ nl ∧ i = .int .i64 k ∧ Hid (Ext V wr)) (fun i _ => nl - (intOf i).toNat)
      case atStart => exact ⟨0, Nat.zero_le _, rfl, HW⟩
      case round =>
        clear HW
        obtain ⟨k, hk, rfl, HW⟩ := hrel
        have q1 := HR1.out.ext HW.out
        have q1l := q1.lt
        have q1c0 := q1.range 0 _ rfl
        have q1c1 := q1.range 1 _ rfl
        have q1c2 := q1.range 2 _ rfl
        have q1c3 := q1.range 3 _ rfl
        have q1c4 := q1.range 4 _ rfl
        have q1c5 := q1.range 5 _ rfl
        simp only [Nat.zero_add] at q1c1 q1c2 q1c3 q1c4 q1c5
        clear q1
        have q2 := HR2.out.ext HW.out
        have q2l := q2.lt
        have q2c0 := q2.range 0 _ rfl
        have q2c1 := q2.range 1 _ rfl
        have q2c2 := q2.range 2 _ rfl
        have q2c3 := q2.range 3 _ rfl
        have q2c4 := q2.range 4 _ rfl
        have q2c5 := q2.range 5 _ rfl
        simp only [Nat.zero_add] at q2c1 q2c2 q2c3 q2c4 q2c5
        clear q2
        by_cases hlt : k < nl
        · have hk1 : (k : Int) < (nl : Int) := by omega
          have hk0 : (0 : Int) ≤ (k : Int) := by omega
          have hkl : k < ls.length := by rw [HNL.out]; exact hlt
          obtain ⟨d, hd⟩ : ∃ y, ls[k] = y := ⟨_, rfl⟩
          obtain ⟨b1, o1, eA, hb1, hr1⟩ := (HL1.out.ext (HV.out.trans HW.out)).elem lnk_len hkl d hd
          obtain ⟨b2, o2, eB, hb2, hr2⟩ := (HL2.out.ext (HV.out.trans HW.out)).elem lnk_len hkl d hd
          subst eA
          subst eB
          clear hkl hd
          go_upto_region 11 with (fail)
          clear q1l q1c0 q1c1 q1c2 q1c3 q1c4 q1c5
          clear q2l q2c0 q2c1 q2c2 q2c3 q2c4 q2c5
          refine wp_region_step (.rd 0 (.rd 1 (.rd 2 (.rd 3 (.rd 4 (.rd 5 (.rd 6 (.rd 7 (.rd 8 (.rd 9 (.rd 10 .done))))))))))) (by kernel_rfl) (by kernel_rfl) (fun _ _ d _ _ h => by cases d <;> exact h) (by simp only [Ord.map, nthOp, List.append]; rfl) ?_
          intro d0
          have HU0 := hid (Ext.grow (Ext.refl wr) d0)
          generalize Go.Proofs.Ytgldlkoohfclpaa.grow wr d0 = U0 at HU0 ⊢
          have hexu := HW.out.trans HU0.out
          have q1 := HR1.out.ext hexu
          have q1l := q1.lt
          have q1c0 := q1.range 0 _ rfl
          have q1c1 := q1.range 1 _ rfl
          have q1c2 := q1.range 2 _ rfl
          have q1c3 := q1.range 3 _ rfl
          have q1c4 := q1.range 4 _ rfl
          have q1c5 := q1.range 5 _ rfl
          simp only [Nat.zero_add] at q1c1 q1c2 q1c3 q1c4 q1c5
          clear q1
          have q2 := HR2.out.ext hexu
          have q2l := q2.lt
          have q2c0 := q2.range 0 _ rfl
          have q2c1 := q2.range 1 _ rfl
          have q2c2 := q2.range 2 _ rfl
          have q2c3 := q2.range 3 _ rfl
          have q2c4 := q2.range 4 _ rfl
          have q2c5 := q2.range 5 _ rfl
          simp only [Nat.zero_add] at q2c1 q2c2 q2c3 q2c4 q2c5
          clear q2
          have hbl1 := Nat.lt_of_lt_of_le hb1 HU0.out.size
          have hbl2 := Nat.lt_of_lt_of_le hb2 HU0.out.size
          clear hexu
          refine step_read (by rfl) (fun K hK => ?_)
          go_big_quiet_op
          refine hK _ ?_
          clear hK K
          refine step_read (by rfl) (fun K hK => ?_)
          go_big_quiet_op
          refine hK _ ?_
          clear hK K
          refine step_read (by rfl) (fun K hK => ?_)
          go_big_quiet_op
          refine hK _ ?_
          clear hK K
          refine step_read (by rfl) (fun K hK => ?_)
          go_big_quiet_op
          refine hK _ ?_
          clear hK K
          refine step_read (by rfl) (fun K hK => ?_)
          refine quiet_loadC 68 (.tmp 101) rfl (b1) ((o1 + k * 3)) rfl [.int .i64 d.fr, .int .i64 d.to_, .int .i64 d.at_] _ (fun w' hw' => (by obtain ⟨dd, rfl⟩ := hw'; exact (fun j u hj => ((HU0.out.trans (Ext.grow (Ext.refl _) dd)).cells _ _ hb1).trans (hr1 j u hj)))) Try.underlying68 rfl (by kernel_rfl) ?_
          refine hK _ ?_
          clear hK K
          simp only [Act.put, List.setIfInBounds_toArray, List.set_cons_zero, List.set_cons_succ]
          refine step_read (by rfl) (fun K hK => ?_)
          go_big_quiet_op
          refine hK _ ?_
          clear hK K
          refine step_read (by rfl) (fun K hK => ?_)
          go_big_quiet_op
          refine hK _ ?_
          clear hK K
          refine step_read (by rfl) (fun K hK => ?_)
          go_big_quiet_op
          refine hK _ ?_
          clear hK K
          refine step_read (by rfl) (fun K hK => ?_)
          go_big_quiet_op
          refine hK _ ?_
          clear hK K
          refine step_read (by rfl) (fun K hK => ?_)
          refine quiet_loadC 68 (.tmp 106) rfl (b2) ((o2 + k * 3)) rfl [.int .i64 d.fr, .int .i64 d.to_, .int .i64 d.at_] _ (fun w' hw' => (by obtain ⟨dd, rfl⟩ := hw'; exact (fun j u hj => ((HU0.out.trans (Ext.grow (Ext.refl _) dd)).cells _ _ hb2).trans (hr2 j u hj)))) Try.underlying68 rfl (by kernel_rfl) ?_
          refine hK _ ?_
          clear hK K
          simp only [Act.put, List.setIfInBounds_toArray, List.set_cons_zero, List.set_cons_succ]
          refine step_read (by rfl) (fun K hK => ?_)
          refine quiet_runD 108 rfl (.bool false) (fun w => by go_simp) ?_
          refine hK _ ?_
          clear hK K
          simp only [Act.put, List.setIfInBounds_toArray, List.set_cons_zero, List.set_cons_succ]
          refine step_nil ?_
          replace HW := hid (HW.out.trans HU0.out)
          go_wp2
          go_roundw
          case rel => exact ⟨k + 1, by omega, by go_num, HW⟩
          case measure => simp [intOf]; omega
        · obtain rfl : nl = k := by omega
          have hk1 : ¬ (nl : Int) < (nl : Int) := by omega
          go_upto_region 13 with (fail)
          clear q1l q1c0 q1c1 q1c2 q1c3 q1c4 q1c5
          clear q2l q2c0 q2c1 q2c2 q2c3 q2c4 q2c5
          have q1 := HR1.out.ext HW.out
          have q1l := q1.lt
          have q1c0 := q1.range 0 _ rfl
          have q1c1 := q1.range 1 _ rfl
          have q1c2 := q1.range 2 _ rfl
          have q1c3 := q1.range 3 _ rfl
          have q1c4 := q1.range 4 _ rfl
          have q1c5 := q1.range 5 _ rfl
          simp only [Nat.zero_add] at q1c1 q1c2 q1c3 q1c4 q1c5
          clear q1
          have q2 := HR2.out.ext HW.out
          have q2l := q2.lt
          have q2c0 := q2.range 0 _ rfl
          have q2c1 := q2.range 1 _ rfl
          have q2c2 := q2.range 2 _ rfl
          have q2c3 := q2.range 3 _ rfl
          have q2c4 := q2.range 4 _ rfl
          have q2c5 := q2.range 5 _ rfl
          simp only [Nat.zero_add] at q2c1 q2c2 q2c3 q2c4 q2c5
          clear q2
          go_wp2
          clear q1l q1c0 q1c1 q1c2 q1c3 q1c4 q1c5
          clear q2l q2c0 q2c1 q2c2 q2c3 q2c4 q2c5
          go_loopw [7] (fun i wr => ∃ (k : Nat), k ≤ ns ∧ i = .int .i64 k ∧ Hid (Ext V wr)) (fun i _ => ns - (intOf i).toNat)
          case atStart => exact ⟨0, Nat.zero_le _, rfl, HW⟩
          case round =>
            clear HW
            obtain ⟨k, hk, rfl, HW⟩ := hrel
            have q1 := HR1.out.ext HW.out
            have q1l := q1.lt
            have q1c0 := q1.range 0 _ rfl
            have q1c1 := q1.range 1 _ rfl
            have q1c2 := q1.range 2 _ rfl
            have q1c3 := q1.range 3 _ rfl
            have q1c4 := q1.range 4 _ rfl
            have q1c5 := q1.range 5 _ rfl
            simp only [Nat.zero_add] at q1c1 q1c2 q1c3 q1c4 q1c5
            clear q1
            have q2 := HR2.out.ext HW.out
            have q2l := q2.lt
            have q2c0 := q2.range 0 _ rfl
            have q2c1 := q2.range 1 _ rfl
            have q2c2 := q2.range 2 _ rfl
            have q2c3 := q2.range 3 _ rfl
            have q2c4 := q2.range 4 _ rfl
            have q2c5 := q2.range 5 _ rfl
            simp only [Nat.zero_add] at q2c1 q2c2 q2c3 q2c4 q2c5
            clear q2
            by_cases hlt : k < ns
            · have hk1 : (k : Int) < (ns : Int) := by omega
              have hk0 : (0 : Int) ≤ (k : Int) := by omega
              have hkl : k < ss.length := by rw [HNS.out]; exact hlt
              obtain ⟨d, hd⟩ : ∃ y, ss[k] = y := ⟨_, rfl⟩
              obtain ⟨b1, o1, eA, hb1, hr1⟩ := (HS1.out.ext (HV.out.trans HW.out)).elem shr_len hkl d hd
              obtain ⟨b2, o2, eB, hb2, hr2⟩ := (HS2.out.ext (HV.out.trans HW.out)).elem shr_len hkl d hd
              subst eA
              subst eB
              clear hkl hd
              go_upto_region 16 with (fail)
              clear q1l q1c0 q1c1 q1c2 q1c3 q1c4 q1c5
              clear q2l q2c0 q2c1 q2c2 q2c3 q2c4 q2c5
              refine wp_region_step (.rd 0 (.rd 1 (.rd 2 (.rd 3 (.rd 4 (.rd 5 (.rd 6 (.rd 7 (.rd 8 (.rd 9 (.rd 10 .done))))))))))) (by kernel_rfl) (by kernel_rfl) (fun _ _ d _ _ h => by cases d <;> exact h) (by simp only [Ord.map, nthOp, List.append]; rfl) ?_
              intro d0
              have HU0 := hid (Ext.grow (Ext.refl wr) d0)
              generalize Go.Proofs.Ytgldlkoohfclpaa.grow wr d0 = U0 at HU0 ⊢
              have hexu := HW.out.trans HU0.out
              have q1 := HR1.out.ext hexu
              have q1l := q1.lt
              have q1c0 := q1.range 0 _ rfl
              have q1c1 := q1.range 1 _ rfl
              have q1c2 := q1.range 2 _ rfl
              have q1c3 := q1.range 3 _ rfl
              have q1c4 := q1.range 4 _ rfl
              have q1c5 := q1.range 5 _ rfl
              simp only [Nat.zero_add] at q1c1 q1c2 q1c3 q1c4 q1c5
              clear q1
              have q2 := HR2.out.ext hexu
              have q2l := q2.lt
              have q2c0 := q2.range 0 _ rfl
              have q2c1 := q2.range 1 _ rfl
              have q2c2 := q2.range 2 _ rfl
              have q2c3 := q2.range 3 _ rfl
              have q2c4 := q2.range 4 _ rfl
              have q2c5 := q2.range 5 _ rfl
              simp only [Nat.zero_add] at q2c1 q2c2 q2c3 q2c4 q2c5
              clear q2
              have hbl1 := Nat.lt_of_lt_of_le hb1 HU0.out.size
              have hbl2 := Nat.lt_of_lt_of_le hb2 HU0.out.size
              clear hexu
              refine step_read (by rfl) (fun K hK => ?_)
              go_big_quiet_op
              refine hK _ ?_
              clear hK K
              refine step_read (by rfl) (fun K hK => ?_)
              go_big_quiet_op
              refine hK _ ?_
              clear hK K
              refine step_read (by rfl) (fun K hK => ?_)
              go_big_quiet_op
              refine hK _ ?_
              clear hK K
              refine step_read (by rfl) (fun K hK => ?_)
              go_big_quiet_op
              refine hK _ ?_
              clear hK K
              refine step_read (by rfl) (fun K hK => ?_)
              refine quiet_loadC 70 (.tmp 119) rfl (b1) ((o1 + k * 2)) rfl [.int .i64 d.rd, .int .i64 d.wr_] _ (fun w' hw' => (by obtain ⟨dd, rfl⟩ := hw'; exact (fun j u hj => ((HU0.out.trans (Ext.grow (Ext.refl _) dd)).cells _ _ hb1).trans (hr1 j u hj)))) Try.underlying70 rfl (by kernel_rfl) ?_
              refine hK _ ?_
              clear hK K
              simp only [Act.put, List.setIfInBounds_toArray, List.set_cons_zero, List.set_cons_succ]
              refine step_read (by rfl) (fun K hK => ?_)
              go_big_quiet_op
              refine hK _ ?_
              clear hK K
              refine step_read (by rfl) (fun K hK => ?_)
              go_big_quiet_op
              refine hK _ ?_
              clear hK K
              refine step_read (by rfl) (fun K hK => ?_)
              go_big_quiet_op
              refine hK _ ?_
              clear hK K
              refine step_read (by rfl) (fun K hK => ?_)
              go_big_quiet_op
              refine hK _ ?_
              clear hK K
              refine step_read (by rfl) (fun K hK => ?_)
              refine quiet_loadC 70 (.tmp 124) rfl (b2) ((o2 + k * 2)) rfl [.int .i64 d.rd, .int .i64 d.wr_] _ (fun w' hw' => (by obtain ⟨dd, rfl⟩ := hw'; exact (fun j u hj => ((HU0.out.trans (Ext.grow (Ext.refl _) dd)).cells _ _ hb2).trans (hr2 j u hj)))) Try.underlying70 rfl (by kernel_rfl) ?_
              refine hK _ ?_
              clear hK K
              simp only [Act.put, List.setIfInBounds_toArray, List.set_cons_zero, List.set_cons_succ]
              refine step_read (by rfl) (fun K hK => ?_)
              refine quiet_runD 126 rfl (.bool false) (fun w => by go_simp) ?_
              refine hK _ ?_
              clear hK K
              simp only [Act.put, List.setIfInBounds_toArray, List.set_cons_zero, List.set_cons_succ]
              refine step_nil ?_
              replace HW := hid (HW.out.trans HU0.out)
              go_wp2
              go_roundw
              case rel => exact ⟨k + 1, by omega, by go_num, HW⟩
              case measure => simp [intOf]; omega
            · obtain rfl : ns = k := by omega
              have hk1 : ¬ (ns : Int) < (ns : Int) := by omega
              go_upto_region 18 with (fail)
              clear q1l q1c0 q1c1 q1c2 q1c3 q1c4 q1c5
              clear q2l q2c0 q2c1 q2c2 q2c3 q2c4 q2c5
              go_wp2
              go_ret
              exact ⟨rfl, HV.out.trans HW.out⟩

end Go.Proofs.Ytgldlkoohfclpaa
