/- Layer 17: the walk of ImageCut. -/
import Derived.Test.YtgldlkoohfclpaaImY
import Derived.Test.YtgldlkoohfclpaaImAC
namespace Go.Proofs.Ytgldlkoohfclpaa
set_option linter.unusedSimpArgs false
set_option linter.unusedVariables false
open Go.RowKit

namespace imageCut
set_option linter.unusedSimpArgs false
set_option linter.unusedVariables false
set_option maxRecDepth 100000 in
set_option maxHeartbeats 8000000 in
theorem walk (x0 : Img) (a1 : Int) (a2 : Int) (w : World) (wi0 : ImgIn w x0) (w1 : (Lit.int .u16 a1).wf = true) (w2 : (Lit.int .u8 a2).wf = true) :
    Calls Try.prog 9 #[.agg #[.bool x0.strict, .int .i64 x0.heap, .int .i64 x0.full, .slice x0.C x0.comps.length x0.cc, .slice x0.L x0.links.length x0.lc, .slice x0.S x0.shares.length x0.sc], .int .u16 a1, .int .u8 a2] w fun e w' => e = .returned (.bool true) ∧ Ext w w' := by
  have HIN := hid wi0
  have HGT := hid (fun (W : World) (hx : Ext w W) => great17_ x0 W (wi0.at_.ext hx) wi0.nc wi0.nl wi0.ns)
  have HPT := hid (fun (h1 : x0.comps.length ≤ 900) (h2 : x0.links.length < 20000) (h3 : x0.shares.length < 20000) (W : World) (hx : Ext w W) => put_ x0 W (wi0.at_.ext hx) (by omega) (by omega) (by omega))
  have HPN := hid (fun h : rightV x0 = false => putV_no h)
  have HPO := hid (fun h : rightV x0 = true => putV_ok wi0 h)
  obtain ⟨nc, hm⟩ : ∃ y, x0.comps.length = y := ⟨_, rfl⟩
  obtain ⟨nl, hml⟩ : ∃ y, x0.links.length = y := ⟨_, rfl⟩
  obtain ⟨ns, hms⟩ : ∃ y, x0.shares.length = y := ⟨_, rfl⟩
  obtain ⟨Ca, hCa⟩ : ∃ y, x0.C = y := ⟨_, rfl⟩
  obtain ⟨La, hLa⟩ : ∃ y, x0.L = y := ⟨_, rfl⟩
  obtain ⟨Sa, hSa⟩ : ∃ y, x0.S = y := ⟨_, rfl⟩
  have HM := hid hm
  have HML := hid hml
  have HMS := hid hms
  rw [hm, hml, hms, hCa, hLa, hSa] at HGT HPT
  rw [hm, hml, hms, hCa, hLa, hSa]
  clear hm hml hms hCa hLa hSa wi0
  go_enter Try.func9, Try.ntmps9
  go_upto_region 1 with (fail)
  refine wp_gen (fun V => Hid (Ext w V) ∧ Hid (Row V w.heap.size 0 [.bool x0.strict, .int .i64 x0.heap, .int .i64 x0.full, .slice Ca nc x0.cc, .slice La nl x0.lc, .slice Sa ns x0.sc])) ⟨hid (by repeat (first | (with_reducible exact Ext.refl _) | (with_reducible refine Ext.undrew ?_) | (with_reducible refine Ext.grow ?_ _) | (with_reducible refine Ext.drew ?_) | (with_reducible refine Ext.drewN ?_ _) | (with_reducible refine Ext.alloc ?_ _) | (with_reducible assumption) | ((with_reducible refine Ext.setCell ?_ ?_ _); rotate_left; (first | exact Nat.le_refl _ | ((try dsimp only); (try simp only [World.size_alloc, grow_size, World.size_setCell]); omega))))), hid (Row.new w _ _)⟩ ?_
  rintro V ⟨HV, HR⟩
  obtain ⟨p, hp⟩ : ∃ y, w.heap.size = y := ⟨_, rfl⟩
  have hpw : w.heap.size ≤ p := by omega
  rw [hp] at HR ⊢
  clear hp
  go_wp2_with fail
  refine (head17_ V).mono ?_
  rintro e W1 ⟨rfl, hx⟩
  replace HV := hid (HV.out.trans hx)
  replace HR := hid (HR.out.ext hx)
  clear hx
  have q := HR.out
  have ql := q.lt
  have qc0 := q.range 0 _ rfl
  have qc1 := q.range 1 _ rfl
  have qc2 := q.range 2 _ rfl
  have qc3 := q.range 3 _ rfl
  have qc4 := q.range 4 _ rfl
  have qc5 := q.range 5 _ rfl
  simp only [Nat.zero_add] at qc1 qc2 qc3 qc4 qc5
  clear q
  go_wp2_with fail
  refine (HGT.out W1 HV.out).mono ?_
  rintro e W2 ⟨⟨b, rfl, hb⟩, hx⟩
  replace HV := hid (HV.out.trans hx.out)
  replace HR := hid (HR.out.ext hx.out)
  have HB := hid hb
  clear hx HGT hb ql qc0 qc1 qc2 qc3 qc4 qc5
  cases b with
  | true =>
    go_wp2
    go_ret
    exact ⟨rfl, HV.out⟩
  | false =>
    obtain ⟨b1, b2, b3, b4⟩ := HB.out rfl
    replace HB := hid b4
    clear b4
    replace HPT := hid (HPT.out (by have := HM.out; omega) (by have := HML.out; omega) (by have := HMS.out; omega))
    obtain ⟨PV, hPV⟩ : ∃ y, putV x0 = y := ⟨_, rfl⟩
    rw [hPV] at HPT HPN HPO
    obtain ⟨pn, hpn⟩ : ∃ y, PV.length = y := ⟨_, rfl⟩
    have HPL := hid hpn
    rw [hpn] at HPT HPO
    clear hPV hpn
    have q := HR.out
    have ql := q.lt
    have qc0 := q.range 0 _ rfl
    have qc1 := q.range 1 _ rfl
    have qc2 := q.range 2 _ rfl
    have qc3 := q.range 3 _ rfl
    have qc4 := q.range 4 _ rfl
    have qc5 := q.range 5 _ rfl
    simp only [Nat.zero_add] at qc1 qc2 qc3 qc4 qc5
    clear q
    go_wp2_with fail
    refine (HPT.out W2 HV.out).mono ?_
    rintro e W3 ⟨A, ca, rfl, HO, hx⟩
    replace HV := hid (HV.out.trans hx.out)
    clear hx HPT ql qc0 qc1 qc2 qc3 qc4 qc5
    obtain ⟨v, hv⟩ : ∃ y, rightV x0 = y := ⟨_, rfl⟩
    rw [hv] at HPN HPO
    clear hv
    cases v with
    | false =>
      have h0 := HPN.out rfl
      have h1 : pn = 0 := by rw [← HPL.out, h0]; rfl
      subst h1
      go_wp2
      go_ret
      exact ⟨rfl, HV.out⟩
    | true =>
      obtain ⟨o1, o2, o3, o4, o5⟩ := HPO.out rfl
      have HPE := hid o1
      have HFI := hid o2
      have HBY := hid o5
      replace HO := hid (show ownsAt W3 W2.heap.size 5 1 (.slice A pn ca) pn (rowF byF PV) by have h9 := HO.out; unfold OwnY at h9; rwa [HPL.out] at h9)
      have HCP := hid HO.out.cap_le
      obtain ⟨gA, oA, eA, _, _, _, _⟩ := HO.out.at_ rfl o4
      have HP := hid (show RdF byF W3 A PV from HO.out.rdF HPL.out)
      obtain ⟨oB, hoB⟩ : ∃ y, oA * 1 = y := ⟨_, rfl⟩
      rw [hoB] at eA
      subst eA
      clear hoB HO HPN HPO o1 o2 o5
      obtain ⟨m, hm, hmp⟩ : ∃ m : Nat, (a1).tmod (pn : Int) = (m : Int) ∧ m < pn := by
        have h0 : 0 ≤ a1 := by have := (show (0 : Int) ≤ a1 ∧ a1 ≤ 65535 by simpa [Lit.wf, IntKind.min, IntKind.max, IntKind.signed, IntKind.bits] using w1); omega
        rw [Int.tmod_eq_emod_of_nonneg h0]
        have h2 := Int.emod_nonneg a1 (show (pn : Int) ≠ 0 by omega)
        have h3 := Int.emod_lt_of_pos a1 (show (0 : Int) < (pn : Int) by omega)
        exact ⟨(a1 % (pn : Int)).toNat, by omega, by omega⟩
      have hw1 : (0 : Int) ≤ a1 ∧ a1 ≤ 65535 := by simpa [Lit.wf, IntKind.min, IntKind.max, IntKind.signed, IntKind.bits] using w1
      obtain ⟨hw10, hw11⟩ := hw1
      have hw2 : (0 : Int) ≤ a2 ∧ a2 ≤ 255 := by simpa [Lit.wf, IntKind.min, IntKind.max, IntKind.signed, IntKind.bits] using w2
      have HW2 := hid hw2
      clear hw2 w1 w2
      have hpn0 : ¬ (pn : Int) = 0 := by omega
      have hmc : (m : Int) ≤ (ca : Int) := by have := HCP.out.1; omega
      have hm0 : (0 : Int) ≤ (m : Int) := by omega
      have HG1 : Hid (Calls Try.prog 12 #[.slice (some ⟨gA, oB, none⟩) m ca] W3 fun e w' => ∃ y : Img, e = .returned (.tuple #[.agg #[.bool y.strict, .int .i64 y.heap, .int .i64 y.full, .slice y.C y.comps.length y.cc, .slice y.L y.links.length y.lc, .slice y.S y.shares.length y.sc], .int .i64 1]) ∧ Hid (ImgAt w' y) ∧ Hid (IsGot (PV.take m) y) ∧ Hid (Ext W3 w')) := hid (by
        have h1 := get_ W3 (some ⟨gA, oB, none⟩) ca (PV.take m) (by_rdB (HP.out.take by_len m)) (fun z hz => HBY.out z (List.mem_of_mem_take hz)) (by rw [List.length_take]; omega) (by rw [List.length_take]; have := HCP.out.1; omega) HCP.out.2
        rw [(show gErr (PV.take m) = 1 by rw [HPE.out]; exact cut_err HFI.out (by rw [← HPE.out, HPL.out]; exact hmp)), (show (PV.take m).length = m by rw [List.length_take, HPL.out]; omega)] at h1
        exact h1.mono (fun e w2 hp => by obtain ⟨⟨y, a, b, c⟩, d⟩ := hp; exact ⟨y, a, b, c, d⟩))
      go_wp2_with fail
      refine HG1.out.mono ?_
      rintro e W4 ⟨y, rfl, _, _, hx⟩
      replace HV := hid (HV.out.trans hx.out)
      replace HP := hid (HP.out.ext hx.out)
      clear hx HG1 hm0 hmc
      go_upto_region 8 with (fail)
      refine wp_gen (fun U => Hid (Ext W4 U)) (hid ((Ext.refl _).alloc _)) ?_
      rintro W6 hx
      replace HV := hid (HV.out.trans hx.out)
      replace HP := hid (HP.out.ext hx.out)
      clear hx
      go_wp2_with first | (at_builtin; refine wpList_plain rfl fun K hK => ?_; (refine wp_app_row by_len (by decide) by_one Try.underlying27 info_by (.tmp 35) (.tmp 36) rfl W6.heap.size (.slice (some ⟨W6.heap.size, 0, none⟩) 0 0) 0 (rowF byF []) rfl (own_new #[] _ 1 0 (Nat.le_refl _) rfl (by decide)) _ pn ca PV rfl HPL.out (HP.out.ext ((Ext.refl _).alloc _)) (by unfold maxLen; omega) (by omega) (by rw [World.size_alloc]; omega) ?_); intro v6 w6 hown hgrow hat; obtain ⟨A6, c6, rfl, _, _⟩ := hown.shape; have HO6 := hid (show ownsAt w6 W6.heap.size 5 1 (.slice A6 pn c6) pn (rowF byF PV) by have h9 := hown; rwa [Nat.zero_add] at h9); have HX6 := hid (Ext.only ((Ext.refl W6).alloc (.cells #[] 5)) (grownOnly (S := fun i => W6.heap.size ≤ i) hgrow (fun g e => by simp [Value.ownBlock] at e; omega)) (fun i hi => hi)); have HS6 := hid (show W6.heap.size ≤ w6.heap.size from HX6.out.size); refine hK _ _ ?_; clear hK K hown hgrow hat) | (at_builtin; refine wpList_plain rfl fun K hK => ?_; (refine wp_app_row by_len (by decide) by_one Try.underlying27 info_by (.tmp 37) (.tmp 39) rfl W6.heap.size (.slice A6 pn c6) pn (rowF byF PV) rfl (HO6.out.ext ((Ext.refl _).alloc _)) (some ⟨w6.heap.size, 0, none⟩) 1 1 [a2] rfl rfl (RdF.row0 (zs := [a2]) (Row.new w6 #[.int .u8 a2] _)) (by unfold maxLen; omega) (by omega) (by rw [World.size_alloc]; have := HS6.out; omega) ?_); intro v7 w7 hown hgrow hat; obtain ⟨A7, c7, rfl, _, _⟩ := hown.shape; refine hK _ _ ?_; clear hK K)
      have HO7 := hid (show ownsAt w7 W6.heap.size 5 1 (.slice A7 (pn + 1) c7) (pn + 1) (rowF byF (PV ++ [a2])) by rw [rowF_append]; exact hown)
      have HX7 := hid (Ext.only (HX6.out.alloc (.cells #[.int .u8 a2] 5)) (grownOnly (S := fun i => W6.heap.size ≤ i) hgrow (fun g e => (HO6.out.lt g e).1)) (fun i hi => hi))
      have HC7 := hid HO7.out.cap_le
      replace HV := hid (HV.out.trans HX7.out)
      clear hown hgrow hat HO6 HX6 HS6 HX7
      have HG2 : Hid (Calls Try.prog 12 #[.slice A7 (pn + 1) c7] w7 fun e w' => ∃ y : Img, e = .returned (.tuple #[.agg #[.bool y.strict, .int .i64 y.heap, .int .i64 y.full, .slice y.C y.comps.length y.cc, .slice y.L y.links.length y.lc, .slice y.S y.shares.length y.sc], .int .i64 1]) ∧ Hid (ImgAt w' y) ∧ Hid (IsGot (PV ++ [a2]) y) ∧ Hid (Ext w7 w')) := hid (by
        have h1 := get_ w7 A7 c7 (PV ++ [a2]) (by_rdB (HO7.out.rdF (by rw [List.length_append, HPL.out]; rfl))) (fun z hz => by rcases List.mem_append.1 hz with h | h; (· exact HBY.out z h); (· simp only [List.mem_cons, List.not_mem_nil, or_false] at h; subst h; exact HW2.out)) (by rw [List.length_append, HPL.out]; show pn + 1 ≤ _; omega) (by rw [List.length_append, HPL.out]; exact HC7.out.1) HC7.out.2
        rw [(show gErr (PV ++ [a2]) = 1 by rw [HPE.out]; exact more_err HFI.out a2), (show (PV ++ [a2]).length = pn + 1 by rw [List.length_append, HPL.out]; rfl)] at h1
        exact h1.mono (fun e w2 hp => by obtain ⟨⟨y, a, b, c⟩, d⟩ := hp; exact ⟨y, a, b, c, d⟩))
      refine HG2.out.mono ?_
      rintro e W8 ⟨y2, rfl, _, _, hx⟩
      have HF := hid (HV.out.trans hx.out)
      clear hx HG2
      go_wp2
      go_ret
      exact ⟨rfl, HF.out.trans ((Ext.refl _).alloc _)⟩
end imageCut

end Go.Proofs.Ytgldlkoohfclpaa
