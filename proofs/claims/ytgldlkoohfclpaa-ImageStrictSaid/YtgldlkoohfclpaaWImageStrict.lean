/- Layer 17: the walk of ImageStrict. -/
import Derived.Test.YtgldlkoohfclpaaImY
import Derived.Test.YtgldlkoohfclpaaImAA
namespace Go.Proofs.Ytgldlkoohfclpaa
set_option linter.unusedSimpArgs false
set_option linter.unusedVariables false
open Go.RowKit

namespace imageStrict
set_option linter.unusedSimpArgs false
set_option linter.unusedVariables false
set_option maxRecDepth 100000 in
set_option maxHeartbeats 8000000 in
theorem walk (x0 : Img) (w : World) (wi0 : ImgIn w x0) :
    Calls Try.prog 8 #[.agg #[.bool x0.strict, .int .i64 x0.heap, .int .i64 x0.full, .slice x0.C x0.comps.length x0.cc, .slice x0.L x0.links.length x0.lc, .slice x0.S x0.shares.length x0.sc]] w fun e w' => e = .returned (.bool true) ∧ Ext w w' := by
  have HIN := hid wi0
  have HGT := hid (fun (W : World) (hx : Ext w W) => great17_ x0 W (wi0.at_.ext hx) wi0.nc wi0.nl wi0.ns)
  have HRT := hid (fun (b : Bool) (h1 : x0.comps.length ≤ 900) (h2 : x0.links.length < 20000) (h3 : x0.shares.length < 20000) (W : World) (hx : Ext w W) => show Calls Try.prog 14 #[.agg #[.bool b, .int .i64 x0.heap, .int .i64 x0.full, .slice x0.C x0.comps.length x0.cc, .slice x0.L x0.links.length x0.lc, .slice x0.S x0.shares.length x0.sc]] W (fun e w' => e = .returned (.bool (rightV (x0.withS b))) ∧ Ext W w') from imRight_ (x0.withS b) W ((wi0.at_.ext hx).withS b) (show x0.comps.length ≤ _ by omega) (show x0.links.length ≤ _ by omega) (show x0.shares.length ≤ _ by omega))
  have HSTR := hid (rightV_strict x0)
  have HC := hid wi0.at_.c
  have HCB := hid (fun d hd => (wi0.at_.cb d hd).1)
  have HBB := hid (fun d hd => (wi0.at_.cb d hd).2.1)
  obtain ⟨nc, hm⟩ : ∃ y, x0.comps.length = y := ⟨_, rfl⟩
  obtain ⟨nl, hml⟩ : ∃ y, x0.links.length = y := ⟨_, rfl⟩
  obtain ⟨ns, hms⟩ : ∃ y, x0.shares.length = y := ⟨_, rfl⟩
  obtain ⟨Ca, hCa⟩ : ∃ y, x0.C = y := ⟨_, rfl⟩
  obtain ⟨La, hLa⟩ : ∃ y, x0.L = y := ⟨_, rfl⟩
  obtain ⟨Sa, hSa⟩ : ∃ y, x0.S = y := ⟨_, rfl⟩
  have HM := hid hm
  have HML := hid hml
  have HMS := hid hms
  rw [hm, hml, hms, hCa, hLa, hSa] at HGT HRT
  rw [hCa] at HC
  rw [hm, hml, hms, hCa, hLa, hSa]
  clear hm hml hms hCa hLa hSa wi0
  go_enter Try.func8, Try.ntmps8
  go_upto_region 1 with (fail)
  refine wp_gen (fun V => Hid (Ext w V) ∧ Hid (Row V w.heap.size 0 [.bool x0.strict, .int .i64 x0.heap, .int .i64 x0.full, .slice Ca nc x0.cc, .slice La nl x0.lc, .slice Sa ns x0.sc])) ⟨hid (by repeat (first | (with_reducible exact Ext.refl _) | (with_reducible refine Ext.undrew ?_) | (with_reducible refine Ext.grow ?_ _) | (with_reducible refine Ext.drew ?_) | (with_reducible refine Ext.drewN ?_ _) | (with_reducible refine Ext.alloc ?_ _) | (with_reducible assumption) | ((with_reducible refine Ext.setCell ?_ ?_ _); rotate_left; (first | exact Nat.le_refl _ | ((try dsimp only); (try simp only [World.size_alloc, grow_size, World.size_setCell]); omega))))), hid (Row.new w _ _)⟩ ?_
  rintro V ⟨HV, HR⟩
  obtain ⟨p, hp⟩ : ∃ y, w.heap.size = y := ⟨_, rfl⟩
  have hpw : w.heap.size ≤ p := by omega
  rw [hp] at HR ⊢
  clear hp
  go_wp2_with fail
  refine (head17_ V).mono ?_
  rintro e W1 ⟨rfl, hx⟩
  replace HV := hid (HV.out.trans hx)
  replace HR := hid (HR.out.ext hx)
  clear hx
  have q := HR.out
  have ql := q.lt
  have qc0 := q.range 0 _ rfl
  have qc1 := q.range 1 _ rfl
  have qc2 := q.range 2 _ rfl
  have qc3 := q.range 3 _ rfl
  have qc4 := q.range 4 _ rfl
  have qc5 := q.range 5 _ rfl
  simp only [Nat.zero_add] at qc1 qc2 qc3 qc4 qc5
  clear q
  go_wp2_with fail
  refine (HGT.out W1 HV.out).mono ?_
  rintro e W2 ⟨⟨b, rfl, hb⟩, hx⟩
  replace HV := hid (HV.out.trans hx.out)
  replace HR := hid (HR.out.ext hx.out)
  have HB := hid hb
  clear hx HGT hb ql qc0 qc1 qc2 qc3 qc4 qc5
  cases b with
  | true =>
    go_wp2
    go_ret
    exact ⟨rfl, HV.out⟩
  | false =>
    obtain ⟨b1, b2, b3, b4⟩ := HB.out rfl
    replace HB := hid b4
    clear b4
    replace HRT := hid (fun (b : Bool) => HRT.out b (by have := HM.out; omega) (by have := HML.out; omega) (by have := HMS.out; omega))
    have q := HR.out
    have ql := q.lt
    have qc0 := q.range 0 _ rfl
    have qf0 := q.free 0 (by show 0 < 6; decide)
    have qc1 := q.range 1 _ rfl
    have qf1 := q.free 1 (by show 1 < 6; decide)
    have qc2 := q.range 2 _ rfl
    have qf2 := q.free 2 (by show 2 < 6; decide)
    have qc3 := q.range 3 _ rfl
    have qf3 := q.free 3 (by show 3 < 6; decide)
    have qc4 := q.range 4 _ rfl
    have qf4 := q.free 4 (by show 4 < 6; decide)
    have qc5 := q.range 5 _ rfl
    have qf5 := q.free 5 (by show 5 < 6; decide)
    simp only [Nat.zero_add] at qc1 qc2 qc3 qc4 qc5 qf1 qf2 qf3 qf4 qf5
    clear q
    go_upto_region 5 with (fail)
    clear ql qc0 qf0 qc1 qf1 qc2 qf2 qc3 qf3 qc4 qf4 qc5 qf5
    refine wp_gen (fun U => Hid (Ext w U) ∧ Hid (Row U p 0 [.bool false, .int .i64 x0.heap, .int .i64 x0.full, .slice Ca nc x0.cc, .slice La nl x0.lc, .slice Sa ns x0.sc])) ⟨hid (Ext.only HV.out (Only.setCell (S := fun i => i = p) (Only.refl (fun i => i = p) _) (.inl rfl) _) (fun i hi => by omega)), hid (HR.out.set1 (j := 0) _)⟩ ?_
    clear HV HR
    rintro W3 ⟨HV, HR⟩
    have q := HR.out
    have ql := q.lt
    have qc0 := q.range 0 _ rfl
    have qf0 := q.free 0 (by show 0 < 6; decide)
    have qc1 := q.range 1 _ rfl
    have qf1 := q.free 1 (by show 1 < 6; decide)
    have qc2 := q.range 2 _ rfl
    have qf2 := q.free 2 (by show 2 < 6; decide)
    have qc3 := q.range 3 _ rfl
    have qf3 := q.free 3 (by show 3 < 6; decide)
    have qc4 := q.range 4 _ rfl
    have qf4 := q.free 4 (by show 4 < 6; decide)
    have qc5 := q.range 5 _ rfl
    have qf5 := q.free 5 (by show 5 < 6; decide)
    simp only [Nat.zero_add] at qc1 qc2 qc3 qc4 qc5 qf1 qf2 qf3 qf4 qf5
    clear q
    go_wp2_with fail
    refine (HRT.out false W3 HV.out).mono ?_
    rintro e W4 ⟨rfl, hx⟩
    replace HV := hid (HV.out.trans hx)
    replace HR := hid (HR.out.ext hx)
    clear hx ql qc0 qf0 qc1 qf1 qc2 qf2 qc3 qf3 qc4 qf4 qc5 qf5
    obtain ⟨r0, hr0⟩ : ∃ y, rightV (x0.withS false) = y := ⟨_, rfl⟩
    rw [hr0] at HSTR ⊢
    clear hr0
    have q := HR.out
    have ql := q.lt
    have qc0 := q.range 0 _ rfl
    have qf0 := q.free 0 (by show 0 < 6; decide)
    have qc1 := q.range 1 _ rfl
    have qf1 := q.free 1 (by show 1 < 6; decide)
    have qc2 := q.range 2 _ rfl
    have qf2 := q.free 2 (by show 2 < 6; decide)
    have qc3 := q.range 3 _ rfl
    have qf3 := q.free 3 (by show 3 < 6; decide)
    have qc4 := q.range 4 _ rfl
    have qf4 := q.free 4 (by show 4 < 6; decide)
    have qc5 := q.range 5 _ rfl
    have qf5 := q.free 5 (by show 5 < 6; decide)
    simp only [Nat.zero_add] at qc1 qc2 qc3 qc4 qc5 qf1 qf2 qf3 qf4 qf5
    clear q
    go_upto_region 7 with (fail)
    clear ql qc0 qf0 qc1 qf1 qc2 qf2 qc3 qf3 qc4 qf4 qc5 qf5
    refine wp_gen (fun U => Hid (Ext w U) ∧ Hid (Row U p 0 [.bool true, .int .i64 x0.heap, .int .i64 x0.full, .slice Ca nc x0.cc, .slice La nl x0.lc, .slice Sa ns x0.sc])) ⟨hid (Ext.only HV.out (Only.setCell (S := fun i => i = p) (Only.refl (fun i => i = p) _) (.inl rfl) _) (fun i hi => by omega)), hid (HR.out.set1 (j := 0) _)⟩ ?_
    clear HV HR
    rintro W5 ⟨HV, HR⟩
    go_wp2
    go_loopw [5, 6] (fun s i wr => ∃ (k : Nat), k ≤ nc ∧ i = .int .i64 k ∧ s = .bool ((x0.comps.take k).any fun d => asksB d.bl) ∧ Hid (Ext W5 wr)) (fun _ i _ => nc - (intOf i).toNat)
    case atStart => exact ⟨0, Nat.zero_le _, rfl, rfl, hid (Ext.refl _)⟩
    case round =>
      obtain ⟨k, hk, rfl, rfl, HW⟩ := hrel
      obtain ⟨pre, hpre⟩ : ∃ y, ((x0.comps.take k).any fun d => asksB d.bl) = y := ⟨_, rfl⟩
      have HPRE := hid hpre
      rw [hpre]
      clear hpre
      have q := HR.out.ext HW.out
      have ql := q.lt
      have qc0 := q.range 0 _ rfl
      have qc1 := q.range 1 _ rfl
      have qc2 := q.range 2 _ rfl
      have qc3 := q.range 3 _ rfl
      have qc4 := q.range 4 _ rfl
      have qc5 := q.range 5 _ rfl
      simp only [Nat.zero_add] at qc1 qc2 qc3 qc4 qc5
      clear q
      by_cases hlt : k < nc
      · have hk1 : (k : Int) < (nc : Int) := by omega
        have hk0 : (0 : Int) ≤ (k : Int) := by omega
        have hkl : k < x0.comps.length := by rw [HM.out]; exact hlt
        obtain ⟨d, hd⟩ : ∃ y, x0.comps[k] = y := ⟨_, rfl⟩
        have hdm : d ∈ x0.comps := hd ▸ List.getElem_mem _
        have HT := hid (show ((x0.comps.take (k + 1)).any fun d => asksB d.bl) = (pre || asksB d.bl) by rw [List.take_succ_eq_append_getElem hkl, hd, List.any_append, HPRE.out]; simp)
        have hb20 := HB.out d hdm
        have HRD := hid (HCB.out d hdm)
        have HBY := hid (HBB.out d hdm)
        obtain ⟨b', o', eA, hb1, hrg⟩ := (HC.out.ext (HV.out.trans HW.out)).elem cmp_len hkl d hd
        have e0 := hrg 0 _ rfl
        simp only [Nat.add_zero] at e0
        subst eA
        obtain ⟨bl, hbl⟩ : ∃ y, d.bl = y := ⟨_, rfl⟩
        rw [hbl] at HRD e0 hb20 HT HBY
        obtain ⟨bn, hbn⟩ : ∃ y, bl.length = y := ⟨_, rfl⟩
        have HBN := hid hbn
        rw [hbn] at e0 hb20
        have HKL := hid hkl
        have HDD := hid (show x0.comps[k]? = some d by rw [List.getElem?_eq_getElem hkl, hd])
        have HBL := hid hbl
        clear hrg hbn hbl hdm hd
        go_wp2
        clear e0 ql qc0 qc1 qc2 qc3 qc4 qc5
        go_loopw [5, 7] (fun s i wr2 => ∃ (j : Nat), 4 * j ≤ bn ∧ i = .int .i64 ((4 * j : Nat) : Int) ∧ s = .bool (pre || (List.range j).any fun q => (insK bl q).op == 28) ∧ Hid (Ext W5 wr2)) (fun _ i _ => bn - (intOf i).toNat)
        case atStart => exact ⟨0, by omega, rfl, by simp, HW⟩
        case round =>
          clear HW
          obtain ⟨j, hj, rfl, rfl, HW⟩ := hrel
          obtain ⟨b2', o2', eA2, hb2, hrg⟩ := (HC.out.ext (HV.out.trans HW.out)).elem cmp_len hkl d (by have h1 := HDD.out; rw [List.getElem?_eq_getElem hkl] at h1; exact Option.some.inj h1)
          cases eA2
          have e0 := hrg 0 _ rfl
          simp only [Nat.add_zero] at e0
          rw [HBL.out, HBN.out] at e0
          clear hrg
          have HAN := hid (show (List.range (j + 1)).any (fun q => (insK bl q).op == 28) = ((List.range j).any (fun q => (insK bl q).op == 28) || (insK bl j).op == 28) by rw [List.range_succ, List.any_append]; simp)
          have HJB := hid (show ¬ 4 * j + 4 ≤ bn → asksB bl = (List.range j).any (fun q => (insK bl q).op == 28) from fun h => by
            unfold asksB
            rw [HBN.out, show bn / 4 = j by omega])
          have HZ : Hid (∀ (h : 4 * j < bl.length), (insK bl j).op = bl[4 * j]) := hid (fun h => by
            show bl.getD (4 * j + 0) 0 = _
            rw [Nat.add_zero, List.getD_eq_getElem?_getD, List.getElem?_eq_getElem h]
            rfl)
          obtain ⟨an, han⟩ : ∃ y, (List.range j).any (fun q => (insK bl q).op == 28) = y := ⟨_, rfl⟩
          rw [han] at HAN HJB ⊢
          clear han
          obtain ⟨v, hv⟩ : ∃ y, (pre || an) = y := ⟨_, rfl⟩
          have HV2 := hid hv
          rw [hv]
          obtain ⟨q4, hq4⟩ : ∃ y, 4 * j = y := ⟨_, rfl⟩
          have HQ4 := hid hq4
          rw [hq4] at hj HJB HZ ⊢
          clear hv hq4
          have hq0 : (0 : Int) ≤ (q4 : Int) := by omega
          have hq1 : (q4 : Int) ≤ 20000 := by omega
          have q := HR.out.ext HW.out
          have ql := q.lt
          have qc0 := q.range 0 _ rfl
          have qc1 := q.range 1 _ rfl
          have qc2 := q.range 2 _ rfl
          have qc3 := q.range 3 _ rfl
          have qc4 := q.range 4 _ rfl
          have qc5 := q.range 5 _ rfl
          simp only [Nat.zero_add] at qc1 qc2 qc3 qc4 qc5
          clear q
          by_cases h4 : q4 + 4 ≤ bn
          · have h4i : (q4 : Int) + 4 ≤ (bn : Int) := by omega
            have hql : q4 < bl.length := by rw [HBN.out]; omega
            have hqi : (q4 : Int) < (bn : Int) := by omega
            obtain ⟨ab, ao, eB, hbb, hcc⟩ := HRD.out (by omega)
            rw [eB] at e0
            have z0 := ((HV.out.trans HW.out).cells _ _ hbb).trans (hcc q4 hql)
            have hbl2 := Nat.lt_of_lt_of_le hbb (HV.out.trans HW.out).size
            have HZ2 := hid (HZ.out hql)
            obtain ⟨z, hz⟩ : ∃ y, bl[q4] = y := ⟨_, rfl⟩
            rw [hz] at z0 HZ2
            clear hz hcc hbb HZ
            cases v with
            | true =>
              go_wp2
              go_roundw
              case rel => exact ⟨j + 1, by have := HQ4.out; omega, by rw [show 4 * (j + 1) = q4 + 4 by have := HQ4.out; omega, Int.natCast_add]; rfl, by rw [HAN.out, ← Bool.or_assoc, HV2.out, Bool.true_or], HW⟩
              case measure => simp [intOf]; omega
            | false =>
              go_wp2
              go_roundw
              case rel => exact ⟨j + 1, by have := HQ4.out; omega, by rw [show 4 * (j + 1) = q4 + 4 by have := HQ4.out; omega, Int.natCast_add]; rfl, by rw [HAN.out, ← Bool.or_assoc, HV2.out, Bool.false_or, HZ2.out], HW⟩
              case measure => simp [intOf]; omega
          · have h4i : ¬ (q4 : Int) + 4 ≤ (bn : Int) := by omega
            have HJ := hid (HJB.out h4)
            go_wp2
            go_roundw
            case rel => exact ⟨k + 1, by omega, by go_num, by rw [HT.out, HJ.out, HV2.out], HW⟩
            case measure => simp [intOf]; omega
      · obtain rfl : nc = k := by omega
        have hk1 : ¬ (nc : Int) < (nc : Int) := by omega
        rw [List.take_of_length_le (by rw [HM.out]; exact Nat.le_refl _)] at HPRE
        rw [HPRE.out] at HSTR
        go_wp2_with fail
        refine (HRT.out true wr (HV.out.trans HW.out)).mono ?_
        rintro e W9 ⟨rfl, hx⟩
        rw [HSTR.out]
        have HF := hid ((HV.out.trans HW.out).trans hx)
        clear hx ql qc0 qc1 qc2 qc3 qc4 qc5
        cases r0 <;> cases pre <;> (go_wp2; go_ret; exact ⟨rfl, HF.out⟩)
end imageStrict

end Go.Proofs.Ytgldlkoohfclpaa
