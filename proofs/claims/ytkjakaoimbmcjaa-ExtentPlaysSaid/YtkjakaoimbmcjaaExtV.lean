/- Layer 12: any Take, any Give, with where the row lies. -/
import Derived.Test.YtkjakaoimbmcjaaExtU
namespace Go.Proofs.Ytkjakaoimbmcjaa
set_option linter.unusedSimpArgs false
set_option linter.unusedVariables false
open Go.RowKit

/-- What Take answers, and what is left. -/
def takeF (n : Int) (l : List Pr) : (Int × Bool) × List Pr := if 1 ≤ n ∧ g16 n = true then (match h : l.findIdx? (fits n) with
  | some k => have hk : k < l.length := (List.findIdx?_eq_some_iff_getElem.1 h).1
    (((l[k]).lo, true), takeK l k n hk)
  | none => ((0, false), l)) else ((0, false), l)
theorem takeF_no {n : Int} {l : List Pr} (h : n < 1 ∨ g16 n = false ∨ l.findIdx? (fits n) = none) : takeF n l = ((0, false), l) := by
  unfold takeF
  split
  · rename_i hc
    split
    · rename_i k hk
      rcases h with h | h | h
      · omega
      · rw [hc.2] at h; cases h
      · rw [h] at hk; cases hk
    · rfl
  · rfl
theorem takeF_yes {n : Int} {l : List Pr} {k : Nat} (h1 : 1 ≤ n) (hg : g16 n = true) (hf : l.findIdx? (fits n) = some k) (hk : k < l.length) : takeF n l = (((l[k]).lo, true), takeK l k n hk) := by
  unfold takeF
  rw [if_pos ⟨h1, hg⟩]
  split
  · rename_i k' hk'
    obtain rfl : k = k' := by rw [hf] at hk'; exact Option.some.inj hk'
    rfl
  · rename_i hn
    rw [hf] at hn; cases hn
theorem oTake (w0 : World) (q base : Nat) (fr to : Int) (v : Value) (l : List Pr) (W : World) (h : EG w0 W q base fr to v l) (n : Int) : Calls Try.prog 11 #[.pointer (some ⟨q, 0, none⟩), .int .i64 n] W fun e w' => ∃ v', e = .returned (.tuple #[.int .i64 (takeF n l).1.1, .bool (takeF n l).1.2]) ∧ Hid (EG w0 w' q base fr to v' (takeF n l).2) ∧ Hid (Only (tch q v) W w') ∧ Hid (∀ g, v'.ownBlock = some g → v.ownBlock = some g ∨ W.heap.size ≤ g) := by
  obtain ⟨hE, hG, h0, h1⟩ := h
  by_cases hn : n < 1 ∨ g16 n = false ∨ l.findIdx? (fits n) = none
  · rw [takeF_no hn]
    refine (xTakeNo w0 q base fr to v l W hE (hG.okF h0 h1) (hG.len h0 h1) n hn).mono ?_
    rintro e w' ⟨rfl, hE', hX⟩
    exact ⟨v, rfl, hid ⟨hE'.out, hG, h0, h1⟩, hid (Only.ofExt hX.out), hid (fun g hg => .inl hg)⟩
  · obtain ⟨a1, a2⟩ := not_or.1 hn
    obtain ⟨a3, a4⟩ := not_or.1 a2
    have hn1 : 1 ≤ n := by omega
    have hg : g16 n = true := by simpa using a3
    rcases Option.eq_none_or_eq_some (l.findIdx? (fits n)) with hf | ⟨k, hf⟩
    · exact absurd hf a4
    · obtain ⟨hk, hfk, _⟩ := List.findIdx?_eq_some_iff_getElem.1 hf
      rw [takeF_yes hn1 hg hf hk]
      refine (take_yes q base fr to v l W hE.1 (hG.len h0 h1) (hG.okF h0 h1) n hn1 hg k hk hf).mono ?_
      rintro e w' ⟨v', rfl, hq, ho, hv⟩
      exact ⟨v', rfl, hid ⟨hE.upd hq.out ho.out, hG.take k n hk hn1 hfk, h0, h1⟩, ho, hid (fun g hg => .inl (hv g hg))⟩
/-- Where what is given back stands. -/
def kOf (x : Int) (l : List Pr) : Nat := match l.findIdx? (fun p => decide (x < p.hi)) with
  | some k => k
  | none => l.length
theorem kOf_is (x : Int) (l : List Pr) : kOf x l ≤ l.length ∧ (∀ (j : Nat) (hj : j < l.length), j < kOf x l → (l[j]).hi ≤ x) ∧ (∀ hk : kOf x l < l.length, x < (l[kOf x l]).hi) := by
  unfold kOf
  split
  · rename_i k h
    obtain ⟨hk, h1, h2⟩ := List.findIdx?_eq_some_iff_getElem.1 h
    refine ⟨Nat.le_of_lt hk, fun j hj hjk => ?_, fun _ => by simpa using h1⟩
    simpa using h2 j hjk
  · rename_i h
    refine ⟨Nat.le_refl _, fun j hj _ => ?_, fun hk => absurd hk (Nat.lt_irrefl _)⟩
    have := List.findIdx?_eq_none_iff.1 h _ (List.getElem_mem hj)
    simpa using this
/-- May it be given back? -/
def giveC (fr to at_ n : Int) (l : List Pr) : Prop := [at_, n].all g16 = true ∧ 1 ≤ n ∧ fr ≤ at_ ∧ at_ ≤ to ∧ n ≤ to - at_ ∧ ∀ hk : kOf at_ l < l.length, at_ + n ≤ (l[kOf at_ l]).lo
theorem oGive (w0 : World) (q base : Nat) (fr to : Int) (v : Value) (l : List Pr) (W : World) (h : EG w0 W q base fr to v l) (at_ n : Int) (hc : giveC fr to at_ n l) : Calls Try.prog 13 #[.pointer (some ⟨q, 0, none⟩), .int .i64 at_, .int .i64 n] W fun e w' => ∃ v', e = .returned (.bool true) ∧ Hid (EG w0 w' q base fr to v' (giveL l (kOf at_ l) ⟨at_, at_ + n⟩)) ∧ Hid (Only (tch q v) W w') ∧ Hid (∀ g, v'.ownBlock = some g → v.ownBlock = some g ∨ W.heap.size ≤ g) := by
  obtain ⟨hE, hG, h0, h1⟩ := h
  obtain ⟨hk1, hk2, hk3⟩ := kOf_is at_ l
  obtain ⟨hg, c1, c2, c3, c4, hge⟩ := hc
  have c5 : fr ≤ at_ ∧ at_ < at_ + n ∧ at_ + n ≤ to := by omega
  have hGG : Good fr to (giveL l (kOf at_ l) ⟨at_, at_ + n⟩) := hG.give (kOf at_ l) ⟨at_, at_ + n⟩ hk1 c5 hk2 hge
  have : Calls Try.prog 13 #[.pointer (some ⟨q, 0, none⟩), .int .i64 at_, .int .i64 n] W fun e w' => ∃ v', e = .returned (.bool true) ∧ Hid (Fr w' q base fr to v' (giveL l (kOf at_ l) ⟨at_, at_ + n⟩)) ∧ Hid (Only (tch q v) W w') ∧ (∀ g, v'.ownBlock = some g → v.ownBlock = some g ∨ W.heap.size ≤ g) := by
    by_cases hk : kOf at_ l < l.length
    · exact give_yes1 q base fr to v l W hE.1 at_ n hg h0 h1 c1 c2 c3 c4 (hG.len h0 h1) (hG.mono at_) (kOf at_ l) hk1 hk2 hk3 hk (hge hk)
    · exact give_yes0 q base fr to v l W hE.1 at_ n hg h0 h1 c1 c2 c3 c4 (hG.len h0 h1) (hG.mono at_) (kOf at_ l) hk1 hk2 hk3 (hid (Nat.le_antisymm hk1 (Nat.not_lt.1 hk)))
  refine this.mono ?_
  rintro e w' ⟨v', rfl, hq, ho, hv⟩
  exact ⟨v', rfl, hid ⟨hE.upd hq.out ho.out, hGG, h0, h1⟩, ho, hid hv⟩
theorem oGiveNo (w0 : World) (q base : Nat) (fr to : Int) (v : Value) (l : List Pr) (W : World) (h : EG w0 W q base fr to v l) (at_ n : Int) (hc : ¬ giveC fr to at_ n l) : Calls Try.prog 13 #[.pointer (some ⟨q, 0, none⟩), .int .i64 at_, .int .i64 n] W fun e w' => ∃ v', e = .returned (.bool false) ∧ Hid (EG w0 w' q base fr to v' l) ∧ Hid (Only (tch q v) W w') ∧ Hid (∀ g, v'.ownBlock = some g → v.ownBlock = some g ∨ W.heap.size ≤ g) := by
  obtain ⟨hE, hG, h0, h1⟩ := h
  obtain ⟨hk1, hk2, hk3⟩ := kOf_is at_ l
  have no : (Calls Try.prog 13 #[.pointer (some ⟨q, 0, none⟩), .int .i64 at_, .int .i64 n] W fun e w' => e = .returned (.bool false) ∧ Ext W w') → Calls Try.prog 13 #[.pointer (some ⟨q, 0, none⟩), .int .i64 at_, .int .i64 n] W fun e w' => ∃ v', e = .returned (.bool false) ∧ Hid (EG w0 w' q base fr to v' l) ∧ Hid (Only (tch q v) W w') ∧ Hid (∀ g, v'.ownBlock = some g → v.ownBlock = some g ∨ W.heap.size ≤ g) := fun hc => hc.mono (by
    rintro e w' ⟨rfl, hx⟩
    exact ⟨v, rfl, hid ⟨hE.ext hx, hG, h0, h1⟩, hid (Only.ofExt hx), hid (fun g hg => .inl hg)⟩)
  by_cases hg : [at_, n].all g16 = true
  · by_cases k0 : n < 1
    · exact no (give_n2 q base fr to v l W hE.1 at_ n hg k0)
    by_cases k1 : at_ < fr
    · exact no (give_n3 q base fr to v l W hE.1 at_ n hg (by omega) k1)
    by_cases k2 : to < at_
    · exact no (give_n4 q base fr to v l W hE.1 at_ n hg (by omega) (by omega) k2)
    by_cases k3 : to - at_ < n
    · exact no (give_n5 q base fr to v l W hE.1 at_ n hg h0 h1 (by omega) (by omega) (by omega) k3)
    have c1 : 1 ≤ n := by omega
    have c2 : fr ≤ at_ := by omega
    have c3 : at_ ≤ to := by omega
    have c4 : n ≤ to - at_ := by omega
    by_cases hge : ∀ hk : kOf at_ l < l.length, at_ + n ≤ (l[kOf at_ l]).lo
    · exact absurd ⟨hg, c1, c2, c3, c4, hge⟩ hc
    · obtain ⟨hk, hov⟩ := Classical.not_forall.1 hge
      exact no (give_n6 q base fr to v l W hE.1 at_ n hg h0 h1 c1 c2 c3 c4 (hG.len h0 h1) (hG.mono at_) (kOf at_ l) hk1 hk2 hk3 hk (Int.not_le.1 hov))
  · exact no (give_n1 q base fr to v l W hE.1 at_ n (Bool.eq_false_iff.2 hg))

end Go.Proofs.Ytkjakaoimbmcjaa
