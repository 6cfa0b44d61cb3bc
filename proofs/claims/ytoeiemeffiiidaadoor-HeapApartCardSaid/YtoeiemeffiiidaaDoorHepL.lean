/- Layer 14: what an Alloc leaves. -/
import Derived.Test.YtoeiemeffiiidaaDoorHepK
namespace Go.Proofs.YtoeiemeffiiidaaDoor
set_option linter.unusedSimpArgs false
set_option linter.unusedVariables false
open Go.RowKit

theorem takeF_spec {n : Int} {l : List Pr} (k : (takeF n l).1.2 = true) : ∃ (A : List Pr) (p : Pr) (B : List Pr), l = A ++ p :: B ∧ (takeF n l).1.1 = p.lo ∧ 1 ≤ n ∧ n ≤ p.hi - p.lo ∧ (takeF n l).2 = A ++ ((if p.hi - p.lo = n then [] else [⟨p.lo + n, p.hi⟩]) ++ B) := by
  by_cases hc : n < 1 ∨ g16 n = false ∨ l.findIdx? (fits n) = none
  · rw [takeF_no hc] at k
    cases k
  · obtain ⟨a1, a2⟩ := not_or.1 hc
    obtain ⟨a2, a3⟩ := not_or.1 a2
    obtain ⟨j, hj⟩ := Option.ne_none_iff_exists'.1 a3
    have hk : j < l.length := (List.findIdx?_eq_some_iff_getElem.1 hj).1
    have hf : n ≤ (l[j]).hi - (l[j]).lo := of_decide_eq_true (List.findIdx?_eq_some_iff_getElem.1 hj).2.1
    rw [takeF_yes (by omega) (by simpa using a2) hj hk]
    have hs : l = l.take j ++ l[j] :: l.drop (j + 1) := by rw [← List.drop_eq_getElem_cons hk, List.take_append_drop]
    refine ⟨l.take j, l[j], l.drop (j + 1), hs, rfl, by omega, hf, ?_⟩
    show takeK l j n hk = _
    unfold takeK
    have hl : (l[j]).len = (l[j]).hi - (l[j]).lo := rfl
    rw [hl]
    split
    · simp [List.eraseIdx_eq_take_drop_succ]
    · rw [List.set_eq_take_append_cons_drop, if_pos hk]
      simp
/-- What is live begins in none of what is free. -/
def ApL (lv : List Lv) (lf : List Pr) : Prop := ∀ z ∈ lv, ∀ p ∈ lf, ¬ (p.lo ≤ z.at_ ∧ z.at_ < p.hi)
theorem alOk_take {x : HSt} {m : Int} (h : alOk x m = true) : roundB m = true ∧ (takeF (roundT m) x.lf).1.2 = true := by
  unfold alOk at h
  simpa using h
theorem al_no {x : HSt} {m : Int} (h : alOk x m = false) : x.al m = x := by
  unfold HSt.al
  rw [if_neg (by rw [h]; decide)]
theorem al_fresh {x : HSt} (ha : ApL x.lv x.lf) {m : Int} (h : alOk x m = true) : idxL x.lv (alAt x m) = none := by
  obtain ⟨_, h2⟩ := alOk_take h
  obtain ⟨A, p, B, e1, e2, e3, e4, _⟩ := takeF_spec h2
  refine idxL_none.2 fun z hz e => ?_
  have := ha z hz p (by rw [e1]; simp)
  rw [show alAt x m = p.lo from e2] at e
  omega
theorem al_ap {x : HSt} {fr tu : Int} (hG : Good fr tu x.lf) (ha : ApL x.lv x.lf) (m : Int) : ApL (x.al m).lv (x.al m).lf := by
  cases h : alOk x m with
  | false =>
    rw [al_no h]
    exact ha
  | true =>
    obtain ⟨_, h2⟩ := alOk_take h
    obtain ⟨A, p, B, e1, e2, e3, e4, e5⟩ := takeF_spec h2
    have ez : alAt x m = p.lo := e2
    unfold HSt.al
    rw [if_pos h]
    simp only
    rw [e5, ez]
    rw [e1] at hG ha
    obtain ⟨g1, g2, g3⟩ := good_append.1 hG
    obtain ⟨g4, g5, g6⟩ := good_cons.1 g2
    intro z hz q hq
    have hq' : q ∈ A ∨ q = ⟨p.lo + roundT m, p.hi⟩ ∨ q ∈ B := by
      rcases List.mem_append.1 hq with c | c
      · exact .inl c
      · rcases List.mem_append.1 c with c | c
        · split at c
          · cases c
          · exact .inr (.inl (by simpa using c))
        · exact .inr (.inr c)
    rcases List.mem_append.1 hz with hz | hz
    · rcases hq' with c | rfl | c
      · exact ha z hz q (by simp [c])
      · have := ha z hz p (by simp)
        show ¬ (p.lo + roundT m ≤ z.at_ ∧ z.at_ < p.hi)
        omega
      · exact ha z hz q (by simp [c])
    · obtain rfl : z = ⟨p.lo, max m 1, roundT m⟩ := by simpa using hz
      rcases hq' with c | rfl | c
      · have := g3 q c p List.mem_cons_self
        show ¬ (q.lo ≤ p.lo ∧ p.lo < q.hi)
        omega
      · show ¬ (p.lo + roundT m ≤ p.lo ∧ p.lo < p.hi)
        omega
      · have := g6 q c
        have := g4.2.1
        show ¬ (q.lo ≤ p.lo ∧ p.lo < q.hi)
        omega
theorem sumP_app (A B : List Pr) : sumP (A ++ B) = sumP A + sumP B := by
  unfold sumP
  rw [List.map_append, List.sum_append]
theorem sumP_cons (p : Pr) (B : List Pr) : sumP (p :: B) = (p.hi - p.lo) + sumP B := by
  unfold sumP
  rw [List.map_cons, List.sum_cons]
  rfl
theorem al_sum {x : HSt} {m : Int} (h : alOk x m = true) : sumP (x.al m).lf = sumP x.lf - roundT m := by
  obtain ⟨_, h2⟩ := alOk_take h
  obtain ⟨A, p, B, e1, e2, e3, e4, e5⟩ := takeF_spec h2
  unfold HSt.al
  rw [if_pos h]
  simp only
  rw [e5]
  conv => rhs; rw [e1]
  rw [sumP_app, sumP_app, sumP_app, sumP_cons]
  split
  · rename_i c
    rw [show sumP [] = 0 from rfl]
    omega
  · rw [sumP_cons, show sumP [] = 0 from rfl]
    simp only
    omega
theorem takesL_one (l : List Lv) (z : Lv) : takesL (l ++ [z]) = takesL l + z.takes := by
  unfold takesL
  rw [List.map_append, List.sum_append]
  simp
theorem al_lv {x : HSt} {m : Int} (h : alOk x m = true) : (x.al m).lv = x.lv ++ [⟨alAt x m, max m 1, roundT m⟩] := by
  unfold HSt.al
  rw [if_pos h]
theorem al_lq (x : HSt) (m : Int) : (x.al m).lq = x.lq ∧ (x.al m).t = x.t := by
  unfold HSt.al
  split <;> exact ⟨rfl, rfl⟩
theorem al_takes {x : HSt} {m : Int} (h : alOk x m = true) : takesL (x.al m).lv = takesL x.lv + roundT m ∧ (x.al m).lv.length = x.lv.length + 1 := by
  rw [al_lv h]
  exact ⟨takesL_one _ _, by simp⟩
theorem al_of {x : HSt} (ha : ApL x.lv x.lf) {m : Int} (h : alOk x m = true) (rp : Int) : ofE (x.al m).lv (alC rp x m) = 0 ∧ (ofB (x.al m).lv (alC rp x m)).takes = roundT m := by
  have hi : idxL (x.lv ++ [⟨alAt x m, max m 1, roundT m⟩]) (alAt x m) = some x.lv.length := by
    have := al_fresh ha h
    unfold idxL at this ⊢
    rw [List.findIdx?_append, this]
    simp
  have he : ofE (x.al m).lv (alC rp x m) = 0 := by
    rw [al_lv h]
    unfold ofE alC
    rw [if_pos h]
    simp only
    rw [hi]
    simp
  refine ⟨he, ?_⟩
  unfold ofB
  rw [if_pos he, al_lv h]
  unfold alC
  rw [if_pos h]
  simp only
  rw [hi]
  simp
theorem al_bd {x : HSt} {fr tu : Int} (hG : Good fr tu x.lf) {m : Int} (h : alOk x m = true) : fr ≤ alAt x m ∧ alAt x m + roundT m ≤ tu := by
  obtain ⟨_, h2⟩ := alOk_take h
  obtain ⟨A, p, B, e1, e2, e3, e4, _⟩ := takeF_spec h2
  have := hG.2 p (by rw [e1]; simp)
  rw [show alAt x m = p.lo from e2]
  omega
theorem Hp_good {w W : World} {h ck q fq p pq g bq bf n : Nat} {fr tu ra rp full : Int} {x : HSt} {T : Nat → Prop} (k : Hp w W h ck q fq p pq g bq bf n fr tu ra rp full T x) : Good fr tu x.lf ∧ x.lf.length ≤ 10000000 ∧ 0 ≤ sumP x.lf := by
  obtain ⟨vq, vf, k, _⟩ := k
  obtain ⟨h1, h2, h3⟩ := k.ex.2
  exact ⟨h1, h1.len h2 h3, (sumP_bound (h1.okF h2 h3)).1⟩
theorem al_err {x : HSt} {m : Int} (hm : 0 ≤ m ∧ m ≤ 65536) : alE x m = if alOk x m = true then 0 else 5 := by
  have hb : roundB m = true := by unfold roundB; simpa using hm
  unfold alE alOk
  rw [if_pos hb, hb]
  simp

end Go.Proofs.YtoeiemeffiiidaaDoor
