/- Layer 14: what HeapAgain wants of values. -/
import Derived.Test.YtoeiemeffiiidaaDoorHepM
namespace Go.Proofs.YtoeiemeffiiidaaDoor
set_option linter.unusedSimpArgs false
set_option linter.unusedVariables false
open Go.RowKit

def frL (lo tu : Int) : List Pr := if lo = tu then [] else [⟨lo, tu⟩]
theorem frL_sum (lo tu : Int) : sumP (frL lo tu) = tu - lo := by
  unfold frL
  split
  · rw [show sumP [] = 0 from rfl]
    omega
  · rw [sumP_cons, show sumP [] = 0 from rfl]
    simp
theorem al_one (t : Int) (lq : List Hd) (P : Nat → Bool) (lv : List Lv) (lo tu m : Int) (hm : 0 ≤ m ∧ m ≤ 65536) (hf : roundT m ≤ tu - lo) : alOk ⟨t, lq, frL lo tu, P, lv⟩ m = true ∧ alAt ⟨t, lq, frL lo tu, P, lv⟩ m = lo ∧ (⟨t, lq, frL lo tu, P, lv⟩ : HSt).al m = ⟨t, lq, frL (lo + roundT m) tu, P, lv ++ [⟨lo, max m 1, roundT m⟩]⟩ ∧ alE ⟨t, lq, frL lo tu, P, lv⟩ m = 0 ∧ alC 31 ⟨t, lq, frL lo tu, P, lv⟩ m = ⟨true, lo, lo + max m 1, lo, 31, 0⟩ := by
  have hb : roundB m = true := by unfold roundB; simpa using hm
  obtain ⟨p1, p2, p3, p4, p5⟩ := roundT_bd hm.1 hm.2
  have hg : g16 (roundT m) = true := by
    unfold g16
    exact decide_eq_true (by rw [Int.tmod_eq_emod_of_nonneg (by omega)]; exact p4)
  have hfr : frL lo tu = [⟨lo, tu⟩] := by unfold frL; rw [if_neg (by omega)]
  have hfi : ([⟨lo, tu⟩] : List Pr).findIdx? (fits (roundT m)) = some 0 := by
    have : fits (roundT m) ⟨lo, tu⟩ = true := by unfold fits Pr.len; exact decide_eq_true hf
    simp [List.findIdx?_cons, this]
  have ht := takeF_yes (n := roundT m) (l := [⟨lo, tu⟩]) (by omega) hg hfi (by simp)
  have htk : takeK [⟨lo, tu⟩] 0 (roundT m) (by simp) = frL (lo + roundT m) tu := by
    unfold takeK frL Pr.len
    simp only [List.getElem_cons_zero]
    by_cases e : tu - lo = roundT m
    · rw [if_pos e, if_pos (by omega)]
      rfl
    · rw [if_neg e, if_neg (by omega)]
      rfl
  rw [htk] at ht
  rw [hfr]
  have h1 : alOk ⟨t, lq, [⟨lo, tu⟩], P, lv⟩ m = true := by unfold alOk; simp only; rw [hb, ht]; rfl
  have h2 : alAt ⟨t, lq, [⟨lo, tu⟩], P, lv⟩ m = lo := by unfold alAt; simp only; rw [ht]; rfl
  refine ⟨h1, h2, ?_, ?_, ?_⟩
  · unfold HSt.al
    rw [if_pos h1, h2]
    simp only
    rw [ht]
  · rw [al_err hm, if_pos h1]
  · unfold alC
    rw [if_pos h1, h2]
theorem al_none {x : HSt} {m : Int} (h : ∀ p ∈ x.lf, p.hi - p.lo < roundT m) : alOk x m = false := by
  cases hk : alOk x m with
  | false => rfl
  | true =>
    obtain ⟨_, h2⟩ := alOk_take hk
    obtain ⟨A, p, B, e1, _, _, e4, _⟩ := takeF_spec h2
    have := h p (by rw [e1]; simp)
    omega
theorem al_out {x : HSt} {m : Int} (hm : 0 ≤ m ∧ m ≤ 65536) (h : alOk x m = false) : alE x m = 5 ∧ x.al m = x ∧ alC 31 x m = ⟨false, 0, 0, 0, 0, 0⟩ ∧ (alOk x m = true → idxL x.lv (alAt x m) = none) := by
  refine ⟨by rw [al_err hm, h]; rfl, al_no h, by unfold alC; rw [h]; rfl, fun e => ?_⟩
  rw [h] at e
  cases e
section
variable (t : Int) (lf : List Pr) (P : Nat → Bool) (lv : List Lv) (n : Nat) (fr tu : Int) (z : Hd)
theorem beg_nil (h : oddB t = false) : (⟨t, [], lf, P, lv⟩ : HSt).beg n = ⟨t + 1, [], lf, P, lv⟩ := by
  unfold HSt.beg
  rw [if_neg (by simp [h])]
  rfl
theorem endd_nil (h : oddB t = true) : (⟨t, [], lf, P, lv⟩ : HSt).endd n fr tu = ⟨t + 1, [], lf, P, lv⟩ := by
  unfold HSt.endd
  rw [if_pos h]
  rfl
theorem endd_not (h : oddB t = true) (hd : dueB (t + 1) z = false) : (⟨t, [z], lf, P, lv⟩ : HSt).endd n fr tu = ⟨t + 1, [z], lf, P, lv⟩ := by
  have e : [z].takeWhile (dueB (t + 1)) = [] := by simp [List.takeWhile, hd]
  unfold HSt.endd
  rw [if_pos h]
  simp only
  rw [e]
  rfl
theorem beg_one (h : oddB t = false) : (⟨t, [z], lf, P, lv⟩ : HSt).beg n = ⟨t + 1, [z], lf, paintAll n true P [z], lv⟩ := by
  unfold HSt.beg
  rw [if_neg (by simp [h])]
theorem endd_one (h : oddB t = true) (hd : dueB (t + 1) z = true) (hc : giveC fr tu z.at_ z.n []) : (⟨t, [z], [], P, lv⟩ : HSt).endd n fr tu = ⟨t + 1, [], [⟨z.at_, z.at_ + z.n⟩], paintAll n false P [z], lv⟩ := by
  have e : [z].takeWhile (dueB (t + 1)) = [z] := by simp [List.takeWhile, hd]
  have g : giveAll fr tu [] [z] = [⟨z.at_, z.at_ + z.n⟩] := by
    show giveS fr tu [] z = _
    unfold giveS
    rw [if_pos hc]
    unfold giveL
    rw [show kOf z.at_ [] = 0 from rfl]
    show joinL (joinL [⟨z.at_, z.at_ + z.n⟩] 1) 0 = _
    rw [joinL_zero, joinL_end _ _ (by simp)]
  unfold HSt.endd
  rw [if_pos h]
  simp only
  rw [e, g]
  rfl
end

end Go.Proofs.YtoeiemeffiiidaaDoor
