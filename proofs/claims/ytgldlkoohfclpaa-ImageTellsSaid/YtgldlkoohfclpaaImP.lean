/- Layer 17: Put. -/
import Derived.Test.YtgldlkoohfclpaaImO
import Derived.Test.YtgldlkoohfclpaaImL
namespace Go.Proofs.Ytgldlkoohfclpaa
set_option linter.unusedSimpArgs false
set_option linter.unusedVariables false
open Go.RowKit

def putV (x : Img) : List Int := if rightV x then hdB x ++ x.comps.flatMap (·.bl) else []
theorem hdB_len {x : Img} : (hdB x).length = 9 + 3 * x.comps.length + 4 * x.links.length + 2 * x.shares.length := by
  unfold hdB
  rw [List.length_append, List.length_append, List.length_append, flat_len _ 3 (fun _ => rfl), flat_len _ 4 (fun _ => rfl), flat_len _ 2 (fun _ => rfl)]
  show 9 + _ + _ + _ = _
  omega
set_option maxRecDepth 100000 in
set_option maxHeartbeats 4000000 in
theorem put_ (x : Img) (w : World) (h : ImgAt w x) (hc : x.comps.length ≤ 1000) (hl : x.links.length ≤ 100000) (hs : x.shares.length ≤ 100000) : Calls Try.prog 16 #[.agg #[.bool x.strict, .int .i64 x.heap, .int .i64 x.full, .slice x.C x.comps.length x.cc, .slice x.L x.links.length x.lc, .slice x.S x.shares.length x.sc]] w fun e w' => ∃ A ca, e = .returned (.slice A (putV x).length ca) ∧ Hid (OwnY w' w.heap.size (.slice A (putV x).length ca) (putV x)) ∧ Hid (Ext w w') := by
  have HR : Hid (∀ W, Ext w W → Calls Try.prog 14 #[.agg #[.bool x.strict, .int .i64 x.heap, .int .i64 x.full, .slice x.C x.comps.length x.cc, .slice x.L x.links.length x.lc, .slice x.S x.shares.length x.sc]] W fun e w' => e = .returned (.bool (rightV x)) ∧ Ext W w') := hid (fun W hx => imRight_ x W (h.ext hx) (by omega) hl hs)
  have HH : Hid (rightV x = true → ∀ W, Ext w W → Calls Try.prog 32 #[.agg #[.bool x.strict, .int .i64 x.heap, .int .i64 x.full, .slice x.C x.comps.length x.cc, .slice x.L x.links.length x.lc, .slice x.S x.shares.length x.sc]] W fun e w' => ∃ A ca, e = .returned (.slice A (hdB x).length ca) ∧ Hid (OwnY w' W.heap.size (.slice A (hdB x).length ca) (hdB x)) ∧ Hid (Ext W w')) := hid (fun hr W hx => head_ x W (h.ext hx) hc (by have := (rightV_ok hr).1; omega) (by have := (rightV_ok hr).1; omega))
  have HCB := hid h.cb
  have HOK : Hid (rightV x = true → (hdB x).length ≤ 1000 ∧ x.comps.length ≤ 4 ∧ ∀ d ∈ x.comps, d.bl.length ≤ 4096) := hid (fun hr => ⟨by rw [hdB_len]; have := (rightV_ok hr).1; omega, by have := (rightV_ok hr).1; omega, fun d hd => ((rightV_ok hr).2.1 d hd).1.2.1⟩)
  have HPV : Hid (putV x = if rightV x then hdB x ++ x.comps.flatMap (·.bl) else []) := hid rfl
  obtain ⟨v, hv⟩ : ∃ y, rightV x = y := ⟨_, rfl⟩
  rw [hv] at HR HH HOK HPV
  obtain ⟨PV, hPV⟩ : ∃ y, putV x = y := ⟨_, rfl⟩
  rw [hPV] at HPV ⊢
  obtain ⟨PRE, hPRE⟩ : ∃ y, hdB x = y := ⟨_, rfl⟩
  rw [hPRE] at HPV HH HOK
  obtain ⟨NP, hNP⟩ : ∃ y, PRE.length = y := ⟨_, rfl⟩
  rw [hNP] at HH HOK
  have HPL := hid hNP
  obtain ⟨m, hm⟩ : ∃ y, x.comps.length = y := ⟨_, rfl⟩
  obtain ⟨ml, hml⟩ : ∃ y, x.links.length = y := ⟨_, rfl⟩
  obtain ⟨ms, hms⟩ : ∃ y, x.shares.length = y := ⟨_, rfl⟩
  obtain ⟨Ca, hCa⟩ : ∃ y, x.C = y := ⟨_, rfl⟩
  obtain ⟨La, hLa⟩ : ∃ y, x.L = y := ⟨_, rfl⟩
  obtain ⟨Sa, hSa⟩ : ∃ y, x.S = y := ⟨_, rfl⟩
  have HC := hid (show RdF Cmp.cells w Ca x.comps by rw [← hCa]; exact h.c)
  have HM := hid hm
  rw [hm, hml, hms, hCa, hLa, hSa] at HR HH
  rw [hm] at HOK
  rw [hm, hml, hms, hCa, hLa, hSa]
  rw [hm] at hc
  clear hm hml hms hCa hLa hSa h hl hs hNP hPRE hPV hv
  go_enter Try.func16, Try.ntmps16
  go_upto_region 1 with (fail)
  refine wp_gen (fun V => Hid (Ext w V) ∧ Row V w.heap.size 0 [.bool x.strict, .int .i64 x.heap, .int .i64 x.full, .slice Ca m x.cc, .slice La ml x.lc, .slice Sa ms x.sc]) ⟨hid (by repeat (first | (with_reducible exact Ext.refl _) | (with_reducible refine Ext.undrew ?_) | (with_reducible refine Ext.grow ?_ _) | (with_reducible refine Ext.drew ?_) | (with_reducible refine Ext.drewN ?_ _) | (with_reducible refine Ext.alloc ?_ _) | (with_reducible assumption) | ((with_reducible refine Ext.setCell ?_ ?_ _); rotate_left; (first | exact Nat.le_refl _ | ((try dsimp only); (try simp only [World.size_alloc, grow_size, World.size_setCell]); omega))))), Row.new w _ _⟩ ?_
  rintro V ⟨HV, hrow⟩
  have HRW := hid hrow
  clear hrow
  have b0 := HRW.out.range 0 _ rfl
  have b1 := HRW.out.range 1 _ rfl
  have b2 := HRW.out.range 2 _ rfl
  have b3 := HRW.out.range 3 _ rfl
  have b4 := HRW.out.range 4 _ rfl
  have b5 := HRW.out.range 5 _ rfl
  have hl0 := HRW.out.lt
  simp only [Nat.zero_add] at b1 b2 b3 b4 b5
  go_wp2_with fail
  refine (HR.out V HV.out).mono ?_
  rintro e W1 ⟨rfl, hy⟩
  have HE := hid (HV.out.trans hy)
  replace HRW := hid (HRW.out.ext hy)
  clear hy HR b0 b1 b2 b3 b4 b5 hl0
  cases v with
  | false =>
    have hp0 := HPV.out
    rw [if_neg (by decide)] at hp0
    subst hp0
    go_wp2
    go_ret
    exact ⟨none, 0, rfl, hid (ownsAt_nil _ _ _ _), HE⟩
  | true =>
    replace HH := hid (HH.out rfl)
    replace HOK := hid (HOK.out rfl)
    have hp0 := HPV.out
    rw [if_pos rfl] at hp0
    replace HPV := hid hp0
    clear hp0
    have b0 := HRW.out.range 0 _ rfl
    have b1 := HRW.out.range 1 _ rfl
    have b2 := HRW.out.range 2 _ rfl
    have b3 := HRW.out.range 3 _ rfl
    have b4 := HRW.out.range 4 _ rfl
    have b5 := HRW.out.range 5 _ rfl
    have hl0 := HRW.out.lt
    simp only [Nat.zero_add] at b1 b2 b3 b4 b5
    go_wp2_with fail
    refine (HH.out W1 HE.out).mono ?_
    rintro e W2 ⟨A0, c0, rfl, hO, hx⟩
    have HDB := hid (show HdB w W2 w.heap.size (.bool x.strict) (.int .i64 x.heap) (.int .i64 x.full) (.slice Ca m x.cc) (.slice La ml x.lc) (.slice Sa ms x.sc) (.slice A0 NP c0) PRE from ⟨Nat.le_refl _, HE.out.trans hx.out, BX6.ext ⟨hl0, b0, b1, b2, b3, b4, b5⟩ hx.out, Nat.le_trans hl0 hx.out.size, hO.out.lower hl0⟩)
    clear hO hx HH b0 b1 b2 b3 b4 b5 hl0 HRW HE
    obtain ⟨p, hp⟩ : ∃ y, w.heap.size = y := ⟨_, rfl⟩
    rw [hp] at HDB
    have HP := hid hp
    rw [hp]
    clear hp HV V
    have b3 := HDB.out.bx.c3
    have hl0 := HDB.out.bx.lt
    go_wp2
    clear b3 hl0
    go_loopw [3, 14] (fun v i wr => ∃ (k N : Nat) (A : Option Addr) (c : Nat), k ≤ m ∧ i = .int .i64 k ∧ v = .slice A N c ∧ Hid (N ≤ NP + 4096 * k) ∧ Hid ((PRE ++ (x.comps.take k).flatMap (·.bl)).length = N) ∧ Hid (HdB w wr p (.bool x.strict) (.int .i64 x.heap) (.int .i64 x.full) (.slice Ca m x.cc) (.slice La ml x.lc) (.slice Sa ms x.sc) (.slice A N c) (PRE ++ (x.comps.take k).flatMap (·.bl)))) (fun _ i _ => m - (intOf i).toNat)
    case atStart => exact ⟨0, _, _, _, Nat.zero_le _, rfl, rfl, hid (Nat.le_add_right _ _), hid (by rw [List.take_zero, List.flatMap_nil, List.append_nil]; exact HPL.out), hid (by rw [List.take_zero, List.flatMap_nil, List.append_nil]; exact HDB.out)⟩
    case round =>
      clear HDB
      obtain ⟨k, N, A, c, hk, rfl, rfl, HN, HLN, HDB⟩ := hrel
      by_cases hlt : k < m
      · have hk1 : (k : Int) < (m : Int) := by omega
        have hk0 : (0 : Int) ≤ (k : Int) := by omega
        have hkl : k < x.comps.length := by rw [HM.out]; exact hlt
        obtain ⟨d, hd⟩ : ∃ d, x.comps[k] = d := ⟨_, rfl⟩
        have hdm : d ∈ x.comps := hd ▸ List.getElem_mem _
        have HT := hid (show (x.comps.take (k + 1)).flatMap (·.bl) = (x.comps.take k).flatMap (·.bl) ++ d.bl by rw [List.take_succ_eq_append_getElem hkl, hd, flat_snoc])
        obtain ⟨b', o', eA, hb1, hrg⟩ := (HC.out.ext HDB.out.ew).elem cmp_len hkl d hd
        have HDR := hid (rdB_by (HCB.out d hdm).1)
        have HD4 := hid (HOK.out.2.2 d hdm)
        have e0 := hrg 0 _ rfl
        have e1 := hrg 1 _ rfl
        simp only [Nat.add_zero] at e0
        subst eA
        clear hrg hd hdm
        obtain ⟨L0, hL0⟩ : ∃ y, PRE ++ (x.comps.take k).flatMap (·.bl) = y := ⟨_, rfl⟩
        rw [hL0] at HDB HLN
        have HL0 := hid hL0
        clear hL0
        obtain ⟨dl, hdl⟩ : ∃ y, d.bl.length = y := ⟨_, rfl⟩
        rw [hdl] at e0 HD4
        have HDL := hid hdl
        clear hdl
        go_upto_region 7 with (fail)
        refine wp_gen (fun W => Hid (HdB w W p (.bool x.strict) (.int .i64 x.heap) (.int .i64 x.full) (.slice (some ⟨b', o', none⟩) m x.cc) (.slice La ml x.lc) (.slice Sa ms x.sc) (.slice A N c) L0) ∧ wr.heap.size < W.heap.size ∧ W.cell? ⟨wr.heap.size, 0, none⟩ = some (.slice d.A dl d.ca)) ⟨hid (HDB.out.ext ((Ext.refl _).alloc _)), by simp, by simp [go_sem]⟩ ?_
        clear HDB
        rintro W1 ⟨HDB, hgl, hg0⟩
        obtain ⟨g, hg⟩ : ∃ y, wr.heap.size = y := ⟨_, rfl⟩
        rw [hg] at hgl hg0 ⊢
        clear hg e0 e1 hb1
        go_upto_region 8 with (at_builtin; refine wpList_plain rfl fun K hK => ?_; go_loud (refine wp_app_hd HDB.out HLN.out (.tmp 18) (.tmp 20) rfl rfl _ dl _ d.bl rfl HDL.out (HDR.out.ext HDB.out.ew) (by have := HN.out; have := HOK.out.1; have := HOK.out.2.1; have := HD4.out; omega) ?_); intro A6 c6 w6 hd6 hk6; refine hK _ _ ?_; clear hK K)
        replace HDB := hid hd6
        clear hd6 hk6
        go_wp2
        go_roundw
        case rel => exact ⟨k + 1, _, _, _, by omega, by go_num, rfl, hid (by have := HN.out; have := HD4.out; omega), hid (by rw [HT.out, ← List.append_assoc, HL0.out, List.length_append, HLN.out, HDL.out]), hid (by rw [HT.out, ← List.append_assoc, HL0.out]; exact HDB.out)⟩
        case measure => simp [intOf]; omega
      · obtain rfl : k = m := by omega
        have hk1 : ¬ (k : Int) < (k : Int) := by omega
        rw [show x.comps.take k = x.comps from List.take_of_length_le (by rw [HM.out]; exact Nat.le_refl _), ← HPV.out] at HDB HLN
        go_wp2
        go_ret
        exact ⟨A, c, by rw [HLN.out]; rfl, hid (by rw [HLN.out]; exact HDB.out.ow.lower (by have := HDB.out.wp; omega)), hid HDB.out.ew⟩

end Go.Proofs.Ytgldlkoohfclpaa
