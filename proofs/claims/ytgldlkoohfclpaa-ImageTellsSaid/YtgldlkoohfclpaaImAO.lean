/- Layer 17: the document: values of Get. -/
import Derived.Test.YtgldlkoohfclpaaImAN
import Derived.Test.YtgldlkoohfclpaaImAC
namespace Go.Proofs.Ytgldlkoohfclpaa
set_option linter.unusedSimpArgs false
set_option linter.unusedVariables false
open Go.RowKit

theorem form_zero (x : Img) : formV ⟨x.strict, x.heap, x.full, none, 0, x.comps.map zC, none, 0, x.links, none, 0, x.shares⟩ = formV x := by
  have h1 : n5 (⟨x.strict, x.heap, x.full, none, 0, x.comps.map zC, none, 0, x.links, none, 0, x.shares⟩ : Img) = n5 x := by
    unfold n5
    rw [show (⟨x.strict, x.heap, x.full, none, 0, x.comps.map zC, none, 0, x.links, none, 0, x.shares⟩ : Img).comps.length = x.comps.length by simp]
  have h2 : (x.comps.map zC).all cF = x.comps.all cF := by
    rw [List.all_map]
    exact all_cg fun c _ => by show cF (zC c) = cF c; unfold cF zC; rw [List.length_replicate]
  have h3 : lF (⟨x.strict, x.heap, x.full, none, 0, x.comps.map zC, none, 0, x.links, none, 0, x.shares⟩ : Img) = lF x := by
    funext i l
    have hl : lenC (x.comps.map zC) l.to_ = lenC x.comps l.to_ := by
      unfold lenC
      rw [List.getElem?_map]
      cases x.comps[l.to_.toNat]? with
      | none => rfl
      | some c => simp [zC]
    unfold lF
    show (!outB l.fr 0 (((x.comps.map zC).length : Int) - 1) && (!outB l.to_ 0 (((x.comps.map zC).length : Int) - 1) && (!(l.fr == l.to_) && (!decide (l.at_ < 0) && (!decide (l.at_ ≥ lenC (x.comps.map zC) l.to_ / 4) && _))))) = _
    rw [List.length_map, hl]
  unfold formV
  rw [h1, h3]
  show (_ && ((x.comps.map zC).all cF && (_ && x.shares.all (sF (x.comps.map zC).length)))) = _
  rw [h2, List.length_map]
theorem FitI.ofF {x : Img} (h : formV x = true) : FitI x := by
  obtain ⟨h5, hcm, hlk, hsh⟩ := form_ok h
  refine ⟨by omega, by omega, by omega, by omega, by omega, fun d hd => ?_, fun d hd => ?_, fun d hd => ?_⟩
  · obtain ⟨a, b, c, e⟩ := hcm d hd
    omega
  · have := hlk d hd
    omega
  · have := hsh d hd
    omega
theorem right_zeroF {x : Img} (h : formV x = true) (hw : ∀ d ∈ x.shares, -9223372036854775808 ≤ d.wr_ ∧ d.wr_ ≤ 9223372036854775807) : rightV ⟨x.strict, x.heap, x.full, none, 0, x.comps.map zC, none, 0, x.links, none, 0, x.shares⟩ = true := by
  rw [right_form (x := ⟨x.strict, x.heap, x.full, none, 0, x.comps.map zC, none, 0, x.links, none, 0, x.shares⟩) hw, form_zero, h, Bool.true_and]
  show (x.comps.map zC).all (fun d => crB d.bl x.strict) = true
  rw [List.all_map, List.all_eq_true]
  intro c hc
  show crB (List.replicate c.bl.length 0) x.strict = true
  refine crB_zero ?_ _
  unfold formV at h
  rw [Bool.and_eq_true, Bool.and_eq_true] at h
  have h2 := List.all_eq_true.1 h.2.1 c hc
  unfold cF at h2
  simp only [Bool.and_eq_true, decide_eq_true_eq] at h2
  exact h2.2.1
def rErr (bl : List Int) : Int := if formV (gImg (cmC bl) bl) = true ∧ byV (gImg (cmC bl) bl) = bl then (if rightV (gImg (cmC bl) bl) = true then 0 else 151) else 1
theorem gImg_wr {bl : List Int} (hb : byteL bl) (cm : Nat → Cmp) : ∀ d ∈ (gImg cm bl).shares, -9223372036854775808 ≤ d.wr_ ∧ d.wr_ ≤ 9223372036854775807 := by
  intro d hd
  obtain ⟨i, _, rfl⟩ := List.mem_map.1 hd
  show -9223372036854775808 ≤ numB bl _ 1 ∧ numB bl _ 1 ≤ 9223372036854775807
  rw [numB_one]
  have := atB_byte hb (9 + 3 * hN bl 6 + 4 * hN bl 7 + 2 * i + 1)
  omega
theorem gImg_zero {b : List Int} (h : gFrom b + gSum b (hN b 6) = b.length) : gImg (cmZ b) b = ⟨(gImg (cmC b) b).strict, (gImg (cmC b) b).heap, (gImg (cmC b) b).full, none, 0, (gImg (cmC b) b).comps.map zC, none, 0, (gImg (cmC b) b).links, none, 0, (gImg (cmC b) b).shares⟩ := by
  have hcm : (List.range (hN b 6)).map (cmZ b) = ((List.range (hN b 6)).map (cmC b)).map zC := by
    rw [List.map_map]
    refine List.map_congr_left fun i hi => ?_
    have hi2 := List.mem_range.1 hi
    have hs : gSum b (i + 1) = gSum b i + lnN b i := rfl
    have hm := gSum_mono b (show i + 1 ≤ hN b 6 by omega)
    show cmZ b i = zC (cmC b i)
    unfold cmC cmZ zC
    rw [List.length_take, List.length_drop, Nat.min_eq_left (by omega)]
  unfold gImg
  rw [hcm]
theorem flat_code {b : List Int} (h : gFrom b + gSum b (hN b 6) = b.length) : ((List.range (hN b 6)).map (cmC b)).flatMap (·.bl) = b.drop (gFrom b) := by
  have hcd : ∀ n, n ≤ hN b 6 → ((List.range n).map (cmC b)).flatMap (·.bl) = (b.drop (gFrom b)).take (gSum b n) := by
    intro n
    induction n with
    | zero => intro _; simp [gSum]
    | succ n ih =>
      intro hn
      rw [List.range_succ, List.map_append, List.map_singleton, flat_snoc, ih (by omega), show gSum b (n + 1) = gSum b n + lnN b n from rfl, List.take_add]
      unfold cmC
      rw [List.drop_drop]
  rw [hcd _ (Nat.le_refl _)]
  exact List.take_of_length_le (by rw [List.length_drop]; omega)
theorem rErr_eq {bl : List Int} (hb : byteL bl) : rErr bl = gErr bl := by
  unfold rErr
  by_cases h : formV (gImg (cmC bl) bl) = true ∧ byV (gImg (cmC bl) bl) = bl
  · rw [if_pos h]
    obtain ⟨hf, hB⟩ := h
    have hw := gImg_wr hb (cmC bl)
    have hbl : gImg (cmC bl) bl = gImg (cmC bl) bl := rfl
    generalize hX : gImg (cmC bl) bl = X at hf hB hw
    have hfit := FitI.ofF hf
    unfold byV at hB
    have a1 := rd_from hfit (C := X.comps.flatMap (·.bl))
    have a2 := rd_nc hfit (C := X.comps.flatMap (·.bl))
    have a3 := rd_sum hfit (C := X.comps.flatMap (·.bl)) _ (Nat.le_refl _)
    have a4 := rd_zero hfit (C := X.comps.flatMap (·.bl))
    have a5 := hdB_zero (x := X)
    have a6 := right_zeroF hf hw
    rw [hB] at a1 a2 a3 a4
    have hlen : bl.length = (hdB X).length + (X.comps.flatMap (·.bl)).length := by rw [← List.length_append, hB]
    have htk : bl.take (hdB X).length = hdB X := by
      have h9 := congrArg (List.take (hdB X).length) hB
      rw [List.take_left] at h9
      exact h9.symm
    have e1 : gFrom bl + gSum bl (hN bl 6) = bl.length := by
      rw [a1, a2, a3, List.take_length, hlen]
    have g0 : gErr bl = if rightV X = false then 151 else 0 := by
      unfold gErr
      rw [if_neg (by rw [e1]; simp), a4, a6, a5, a1, htk, if_neg (by simp), hX]
    rw [g0]
    cases rightV X <;> rfl
  · rw [if_neg h]
    unfold gErr
    by_cases h1 : gFrom bl + gSum bl (hN bl 6) ≠ bl.length
    · rw [if_pos h1]
    rw [if_neg h1]
    by_cases h2 : rightV (gImg (cmZ bl) bl) = false ∨ hdB (gImg (cmZ bl) bl) ≠ bl.take (gFrom bl)
    · rw [if_pos h2]
    exfalso
    apply h
    have h1' : gFrom bl + gSum bl (hN bl 6) = bl.length := Classical.not_not.1 h1
    have h5 : hdB (gImg (cmZ bl) bl) = bl.take (gFrom bl) := Classical.byContradiction fun hh => h2 (.inr hh)
    have h6 : rightV (gImg (cmZ bl) bl) = true := by
      cases hz : rightV (gImg (cmZ bl) bl) with
      | true => rfl
      | false => exact absurd (.inl hz) h2
    have h7 := gImg_zero h1'
    rw [right_form (gImg_wr hb (cmZ bl)), Bool.and_eq_true] at h6
    rw [h7, form_zero] at h6
    rw [h7, hdB_zero] at h5
    refine ⟨h6.1, ?_⟩
    unfold byV
    rw [h5]
    show _ ++ ((List.range (hN bl 6)).map (cmC bl)).flatMap (·.bl) = bl
    rw [flat_code h1', List.take_append_drop]

end Go.Proofs.Ytgldlkoohfclpaa
