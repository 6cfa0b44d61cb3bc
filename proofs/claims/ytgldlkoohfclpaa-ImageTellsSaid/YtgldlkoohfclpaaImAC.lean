/- Layer 17: there and back. -/
import Derived.Test.YtgldlkoohfclpaaImAB
import Derived.Test.YtgldlkoohfclpaaImV
namespace Go.Proofs.Ytgldlkoohfclpaa
set_option linter.unusedSimpArgs false
set_option linter.unusedVariables false
open Go.RowKit

theorem list_of_range {α : Type} (l : List α) (f : Nat → α) (h : ∀ k (hk : k < l.length), f k = l[k]) : (List.range l.length).map f = l := by
  apply List.ext_getElem (by simp)
  intro i h1 h2
  simp only [List.getElem_map, List.getElem_range]
  exact h i h2
theorem map_range_of {α β : Type} (l : List α) (f : Nat → β) (g : α → β) (h : ∀ k (hk : k < l.length), f k = g l[k]) : (List.range l.length).map f = l.map g := by
  apply List.ext_getElem (by simp)
  intro i h1 h2
  simp only [List.getElem_map, List.getElem_range]
  exact h i (by simpa using h2)
/-- The same, with codes of zeros. -/
def zC (c : Cmp) : Cmp := ⟨none, 0, List.replicate c.bl.length 0, c.data⟩
theorem byK_zero (n k j : Nat) : byK (List.replicate n 0) k j = 0 := by
  unfold byK
  rw [List.getD_eq_getElem?_getD, List.getElem?_replicate]
  split <;> rfl
theorem crB_zero {n : Nat} (h : n % 4 = 0) (st : Bool) : crB (List.replicate n 0) st = true := by
  have hi : ∀ k, insK (List.replicate n 0) k = ⟨0, 0, gB 0 0 0, gC 0 0⟩ := fun k => by
    unfold insK
    rw [byK_zero, byK_zero, byK_zero, byK_zero]
  have h1 : codeOk (List.replicate n 0) = true := by
    unfold codeOk
    rw [Bool.and_eq_true]
    refine ⟨by simpa using h, List.all_eq_true.2 fun k _ => ?_⟩
    unfold okK
    rw [hi]
    decide +kernel
  have h2 : asksB (List.replicate n 0) = false := by
    unfold asksB
    rw [List.any_eq_false]
    intro k _
    rw [hi]
    decide
  unfold crB
  rw [h1, h2]
  cases st <;> rfl
theorem right_zero {x : Img} (h : rightV x = true) : rightV ⟨x.strict, x.heap, x.full, none, 0, x.comps.map zC, none, 0, x.links, none, 0, x.shares⟩ = true := by
  have hcm := (rightV_ok h).2.1
  have h1 : n5 (⟨x.strict, x.heap, x.full, none, 0, x.comps.map zC, none, 0, x.links, none, 0, x.shares⟩ : Img) = n5 x := by
    unfold n5
    rw [show (⟨x.strict, x.heap, x.full, none, 0, x.comps.map zC, none, 0, x.links, none, 0, x.shares⟩ : Img).comps.length = x.comps.length by simp]
  have h2 : (x.comps.map zC).all (cmOk x.strict) = true := by
    rw [List.all_map, List.all_eq_true]
    intro c hc
    obtain ⟨⟨a, b, d1, d2⟩, hcr⟩ := hcm c hc
    show cmOk x.strict (zC c) = true
    unfold cmOk zC
    have h4 : c.bl.length % 4 = 0 := by
      unfold crB codeOk at hcr
      simp only [Bool.and_eq_true, decide_eq_true_eq] at hcr
      exact hcr.1.1
    rw [crB_zero h4]
    unfold outB
    simp only [List.length_replicate, List.any_cons, List.any_nil, id, Bool.and_true, Bool.or_false, Bool.not_eq_true', Bool.or_eq_false_iff, decide_eq_false_iff_not]
    omega
  have h3 : lnkOk (⟨x.strict, x.heap, x.full, none, 0, x.comps.map zC, none, 0, x.links, none, 0, x.shares⟩ : Img) = lnkOk x := by
    funext l
    have hl : lenC (x.comps.map zC) l.to_ = lenC x.comps l.to_ := by
      unfold lenC
      rw [List.getElem?_map]
      cases x.comps[l.to_.toNat]? with
      | none => rfl
      | some c => simp [zC]
    unfold lnkOk lkB
    show (!(lkA ((x.comps.map zC).length) l).any id && !([decide (l.at_ < 0), decide (l.at_ ≥ lenC (x.comps.map zC) l.to_ / 4), _] : List Bool).any id) = _
    rw [List.length_map, hl]
  unfold rightV at h ⊢
  rw [h1, h3]
  simp only [Bool.and_eq_true] at h ⊢
  refine ⟨⟨⟨h.1.1.1, h2⟩, h.1.2⟩, ?_⟩
  show x.shares.all (shOk (x.comps.map zC).length) = true
  rw [List.length_map]
  exact h.2
theorem flatMap_zC (cs : List Cmp) : (cs.map zC).flatMap cmB = cs.flatMap cmB := by
  induction cs with
  | nil => rfl
  | cons d cs ih =>
    rw [List.map_cons, List.flatMap_cons, List.flatMap_cons, ih, show cmB (zC d) = cmB d by unfold cmB zC; simp]
section
variable {x : Img} {C : List Int}
theorem rd_img (h : FitI x) (cm : Nat → Cmp) : gImg cm (hdB x ++ C) = ⟨x.strict, x.heap, x.full, none, 0, (List.range x.comps.length).map cm, none, 0, x.links, none, 0, x.shares⟩ := by
  unfold gImg
  rw [rd_nc h, rd_nl h, rd_ns h, list_of_range x.links _ (fun k hk => rd_lk h hk), list_of_range x.shares _ (fun k hk => rd_sh h hk)]
  have e1 : (numB (hdB x ++ C) 2 1 == 1) = x.strict := by
    rw [numB_one, hd_i (by decide)]
    show (bitV x.strict == 1) = _
    unfold bitV
    cases x.strict <;> rfl
  have e2 : numB (hdB x ++ C) 3 1 = x.heap := by
    rw [numB_one, hd_i (by decide)]
    show x.heap % 256 = _
    have := h.hp
    omega
  have e3 : numB (hdB x ++ C) 4 2 = x.full := by
    rw [numB_two, hd_i (by decide), hd_i (by decide)]
    exact two_join h.fl.1 h.fl.2
  rw [e1, e2, e3]
theorem rd_zero (h : FitI x) : gImg (cmZ (hdB x ++ C)) (hdB x ++ C) = ⟨x.strict, x.heap, x.full, none, 0, x.comps.map zC, none, 0, x.links, none, 0, x.shares⟩ := by
  rw [rd_img h, map_range_of x.comps _ zC (fun k hk => by
    unfold cmZ zC
    rw [rd_lnN h hk, rd_data h hk])]
theorem rd_code (h : FitI x) : gImg (cmC (hdB x ++ x.comps.flatMap (·.bl))) (hdB x ++ x.comps.flatMap (·.bl)) = x.strip := by
  rw [rd_img h, map_range_of x.comps _ Cmp.strip (fun k hk => by
    unfold cmC Cmp.strip
    rw [rd_lnN h hk, rd_data h hk, rd_from h, rd_sum h k (by omega), List.drop_length_add_append]
    have e : x.comps.flatMap (·.bl) = (x.comps.take k).flatMap (·.bl) ++ (x.comps.drop k).flatMap (·.bl) := by rw [← List.flatMap_append, List.take_append_drop]
    rw [e, List.drop_left, List.drop_eq_getElem_cons hk, List.flatMap_cons, List.take_left])]
  rfl
theorem hdB_zero : hdB (⟨x.strict, x.heap, x.full, none, 0, x.comps.map zC, none, 0, x.links, none, 0, x.shares⟩ : Img) = hdB x := by
  unfold hdB hdI
  show [83, 90, bitV x.strict, x.heap % 256] ++ twB x.full ++ [((x.comps.map zC).length : Int) % 256, (x.links.length : Int) % 256, (x.shares.length : Int) % 256] ++ (x.comps.map zC).flatMap cmB ++ x.links.flatMap lkBy ++ x.shares.flatMap shB = _
  rw [List.length_map, flatMap_zC]
/-- A right one is got of its bytes. -/
theorem put_err (h : FitI x) (hr : rightV x = true) : gErr (hdB x ++ x.comps.flatMap (·.bl)) = 0 := by
  unfold gErr
  rw [rd_zero h, rd_code h, right_zero hr, hdB_zero, rd_from h, rightV_strip, hr, rd_nc h, rd_sum h _ (Nat.le_refl _), List.take_length, List.take_left]
  rw [if_neg (by simp [List.length_append]), if_neg (by simp), if_neg (by simp)]
/-- Bytes that are cut, or have one more, are none. -/
theorem more_err (h : FitI x) (c : Int) : gErr (hdB x ++ x.comps.flatMap (·.bl) ++ [c]) = 1 := by
  unfold gErr
  rw [List.append_assoc, rd_from h, rd_nc h, rd_sum h _ (Nat.le_refl _), List.take_length, if_pos (by simp [List.length_append])]
theorem atB_take {b : List Int} {n i : Nat} (h : i < n) : atB (b.take n) i = atB b i := by
  unfold atB
  rw [List.getElem?_take, if_pos h]
theorem cut_err (h : FitI x) {n : Nat} (hn : n < (hdB x ++ x.comps.flatMap (·.bl)).length) : gErr ((hdB x ++ x.comps.flatMap (·.bl)).take n) = 1 := by
  have hl : ((hdB x ++ x.comps.flatMap (·.bl)).take n).length = n := by rw [List.length_take]; omega
  have key : gFrom ((hdB x ++ x.comps.flatMap (·.bl)).take n) + gSum ((hdB x ++ x.comps.flatMap (·.bl)).take n) (hN ((hdB x ++ x.comps.flatMap (·.bl)).take n) 6) ≠ n := by
    by_cases h1 : (hdB x).length ≤ n
    · have e : (hdB x ++ x.comps.flatMap (·.bl)).take n = hdB x ++ (x.comps.flatMap (·.bl)).take (n - (hdB x).length) := by
        rw [List.take_append, List.take_of_length_le h1]
      rw [e, rd_from h, rd_nc h, rd_sum h _ (Nat.le_refl _), List.take_length]
      rw [List.length_append] at hn
      omega
    · by_cases h9 : n < 9
      · unfold gFrom
        omega
      · have hN' : ∀ i, i < 9 → hN ((hdB x ++ x.comps.flatMap (·.bl)).take n) i = hN (hdB x ++ x.comps.flatMap (·.bl)) i := fun i hi => by
          unfold hN
          rw [numB_one, numB_one, atB_take (by omega)]
        have e : gFrom ((hdB x ++ x.comps.flatMap (·.bl)).take n) = (hdB x).length := by
          rw [← rd_from (C := x.comps.flatMap (·.bl)) h]
          unfold gFrom
          rw [hN' 6 (by decide), hN' 7 (by decide), hN' 8 (by decide)]
        omega
  unfold gErr
  rw [if_pos (by rw [hl]; exact key)]
end
theorem flat_congr {α β : Type} (f g : Nat → α) (k : α → List β) : ∀ l : List Nat, (∀ i ∈ l, k (f i) = k (g i)) → (l.map f).flatMap k = (l.map g).flatMap k
  | [], _ => rfl
  | a :: l, h => by
    rw [List.map_cons, List.map_cons, List.flatMap_cons, List.flatMap_cons, h a (by simp), flat_congr f g k l (fun i hi => h i (by simp [hi]))]
/-- What is got has the bytes that it was got of. -/
theorem got_put {b : List Int} (h : gErr b = 0) : rightV (gImg (cmC b) b) = true ∧ putV (gImg (cmC b) b) = b := by
  unfold gErr at h
  by_cases h1 : gFrom b + gSum b (hN b 6) ≠ b.length
  · rw [if_pos h1] at h; cases h
  rw [if_neg h1] at h
  by_cases h2 : rightV (gImg (cmZ b) b) = false ∨ hdB (gImg (cmZ b) b) ≠ b.take (gFrom b)
  · rw [if_pos h2] at h; cases h
  rw [if_neg h2] at h
  by_cases h3 : rightV (gImg (cmC b) b) = false
  · rw [if_pos h3] at h; cases h
  have h4 : rightV (gImg (cmC b) b) = true := by simpa using h3
  refine ⟨h4, ?_⟩
  have h1' : gFrom b + gSum b (hN b 6) = b.length := Classical.not_not.1 h1
  have h5 : hdB (gImg (cmZ b) b) = b.take (gFrom b) := Classical.byContradiction fun hh => h2 (.inr hh)
  have hh : hdB (gImg (cmC b) b) = hdB (gImg (cmZ b) b) := by
    have hcm : ((List.range (hN b 6)).map (cmC b)).flatMap cmB = ((List.range (hN b 6)).map (cmZ b)).flatMap cmB := flat_congr _ _ _ _ (fun i hi => by
      have hi2 := List.mem_range.1 hi
      have hs : gSum b (i + 1) = gSum b i + lnN b i := rfl
      have hm := gSum_mono b (show i + 1 ≤ hN b 6 by omega)
      unfold cmB cmC cmZ
      rw [List.length_take, List.length_drop, List.length_replicate, Nat.min_eq_left (by omega)])
    unfold hdB hdI
    show [83, 90, bitV (gImg (cmC b) b).strict, (gImg (cmC b) b).heap % 256] ++ twB (gImg (cmC b) b).full ++ [(((List.range (hN b 6)).map (cmC b)).length : Int) % 256, _, _] ++ ((List.range (hN b 6)).map (cmC b)).flatMap cmB ++ _ ++ _ = _
    rw [hcm, List.length_map]
    show _ = [83, 90, bitV (gImg (cmZ b) b).strict, (gImg (cmZ b) b).heap % 256] ++ twB (gImg (cmZ b) b).full ++ [(((List.range (hN b 6)).map (cmZ b)).length : Int) % 256, _, _] ++ ((List.range (hN b 6)).map (cmZ b)).flatMap cmB ++ _ ++ _
    rw [List.length_map]
    rfl
  have hcd : ∀ n, n ≤ hN b 6 → ((List.range n).map (cmC b)).flatMap (·.bl) = (b.drop (gFrom b)).take (gSum b n) := by
    intro n
    induction n with
    | zero => intro _; simp [gSum]
    | succ n ih =>
      intro hn
      rw [List.range_succ, List.map_append, List.map_singleton, flat_snoc, ih (by omega), show gSum b (n + 1) = gSum b n + lnN b n from rfl, List.take_add]
      unfold cmC
      rw [List.drop_drop]
  unfold putV
  rw [if_pos h4, hh, h5]
  show b.take (gFrom b) ++ ((List.range (hN b 6)).map (cmC b)).flatMap (·.bl) = b
  rw [hcd _ (Nat.le_refl _), show (b.drop (gFrom b)).take (gSum b (hN b 6)) = b.drop (gFrom b) from List.take_of_length_le (by rw [List.length_drop]; omega), List.take_append_drop]
theorem putV_no {x : Img} (h : rightV x = false) : putV x = [] := by
  unfold putV
  rw [h]
  rfl
theorem putV_ok {w : World} {x : Img} (h : ImgIn w x) (hr : rightV x = true) : putV x = hdB x ++ x.comps.flatMap (·.bl) ∧ FitI x ∧ (putV x).length ≤ 60000 ∧ 0 < (putV x).length ∧ byteL (putV x) := by
  have e : putV x = hdB x ++ x.comps.flatMap (·.bl) := by unfold putV; rw [hr]; rfl
  have hf := FitI.of hr (fun s hs => (h.ws s hs).2)
  obtain ⟨h5, hcm, _, _⟩ := rightV_ok hr
  have hfl : ∀ l : List Cmp, (∀ d ∈ l, d.bl.length ≤ 4096) → (l.flatMap (·.bl)).length ≤ 4096 * l.length := by
    intro l
    induction l with
    | nil => intro _; exact Nat.zero_le _
    | cons d l ih =>
      intro hd
      have h1 := hd d (by simp)
      have h2 := ih (fun d hd2 => hd d (by simp [hd2]))
      rw [List.flatMap_cons, List.length_append, List.length_cons]
      omega
  have h1 := hfl x.comps (fun d hd => (hcm d hd).1.2.1)
  refine ⟨e, hf, ?_, ?_, ?_⟩
  · rw [e, List.length_append, hdB_len]
    omega
  · rw [e, List.length_append, hdB_len]
    omega
  · rw [e]
    intro z hz
    rcases List.mem_append.1 hz with hz | hz
    · exact hdB_byte x z hz
    · obtain ⟨d, hd, hz⟩ := List.mem_flatMap.1 hz
      exact (h.at_.cb d hd).2.1 z hz

end Go.Proofs.Ytgldlkoohfclpaa
