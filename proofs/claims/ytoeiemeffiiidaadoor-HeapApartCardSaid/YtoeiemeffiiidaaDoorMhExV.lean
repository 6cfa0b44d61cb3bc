/- MhExV: ExtU ExtV -/
import Derived.Test.YtoeiemeffiiidaaDoorMhQua
namespace Go.Proofs.YtoeiemeffiiidaaDoor
set_option maxRecDepth 100000
set_option linter.unusedSimpArgs false
set_option linter.unusedVariables false
open Go.RowKit

/-- Which numbers are free. -/
def inP (x : Int) (p : Pr) : Prop := p.lo ≤ x ∧ x < p.hi
def inL (x : Int) (l : List Pr) : Prop := ∃ p ∈ l, inP x p
theorem inL_nil (x : Int) : ¬ inL x [] := fun ⟨_, h, _⟩ => by cases h
theorem inL_cons {x : Int} {p : Pr} {B : List Pr} : inL x (p :: B) ↔ inP x p ∨ inL x B := by
  constructor
  · rintro ⟨r, hr, h⟩
    rcases List.mem_cons.1 hr with rfl | hr
    · exact .inl h
    · exact .inr ⟨r, hr, h⟩
  · rintro (h | ⟨r, hr, h⟩)
    · exact ⟨p, List.mem_cons_self, h⟩
    · exact ⟨r, List.mem_cons_of_mem _ hr, h⟩
theorem inL_append {x : Int} {A B : List Pr} : inL x (A ++ B) ↔ inL x A ∨ inL x B := by
  constructor
  · rintro ⟨r, hr, h⟩
    exact (List.mem_append.1 hr).imp (fun hr => ⟨r, hr, h⟩) (fun hr => ⟨r, hr, h⟩)
  · rintro (⟨r, hr, h⟩ | ⟨r, hr, h⟩)
    · exact ⟨r, List.mem_append_left _ hr, h⟩
    · exact ⟨r, List.mem_append_right _ hr, h⟩
theorem inL_lt {x y : Int} {B : List Pr} (h : ∀ r ∈ B, y < r.lo) (hx : inL x B) : y < x := by
  obtain ⟨r, hr, h1⟩ := hx
  have := h r hr
  unfold inP at h1
  omega
theorem inL_gt {x y : Int} {A : List Pr} (h : ∀ r ∈ A, r.hi ≤ y) (hx : inL x A) : x < y := by
  obtain ⟨r, hr, h1⟩ := hx
  have := h r hr
  unfold inP at h1
  omega
/-- Runs are told by which numbers are free. -/
theorem canon {to : Int} : ∀ (l m : List Pr) (fr : Int), Good fr to l → Good fr to m → (∀ x, inL x l ↔ inL x m) → l = m
  | [], [], _, _, _, _ => rfl
  | [], r :: C, _, _, h2, h => by
    obtain ⟨c1, _, _⟩ := good_cons.1 h2
    exact absurd ((h r.lo).2 (inL_cons.2 (.inl ⟨Int.le_refl _, c1.2.1⟩))) (inL_nil _)
  | p :: B, [], _, h1, _, h => by
    obtain ⟨c1, _, _⟩ := good_cons.1 h1
    exact absurd ((h p.lo).1 (inL_cons.2 (.inl ⟨Int.le_refl _, c1.2.1⟩))) (inL_nil _)
  | p :: B, r :: C, fr, h1, h2, h => by
    obtain ⟨p1, p2, p3⟩ := good_cons.1 h1
    obtain ⟨r1, r2, r3⟩ := good_cons.1 h2
    have e1 : r.lo ≤ p.lo := by
      rcases inL_cons.1 ((h p.lo).1 (inL_cons.2 (.inl ⟨Int.le_refl _, p1.2.1⟩))) with c | c
      · exact c.1
      · have := inL_lt r3 c; omega
    have e2 : p.lo ≤ r.lo := by
      rcases inL_cons.1 ((h r.lo).2 (inL_cons.2 (.inl ⟨Int.le_refl _, r1.2.1⟩))) with c | c
      · exact c.1
      · have := inL_lt p3 c; omega
    have e3 : r.hi ≤ p.hi := by
      rcases Int.lt_or_le p.hi r.hi with c | c
      · exfalso
        rcases inL_cons.1 ((h p.hi).2 (inL_cons.2 (.inl ⟨by omega, c⟩))) with d | d
        · unfold inP at d; omega
        · have := inL_lt p3 d; omega
      · exact c
    have e4 : p.hi ≤ r.hi := by
      rcases Int.lt_or_le r.hi p.hi with c | c
      · exfalso
        rcases inL_cons.1 ((h r.hi).1 (inL_cons.2 (.inl ⟨by omega, c⟩))) with d | d
        · unfold inP at d; omega
        · have := inL_lt r3 d; omega
      · exact c
    have e : p = r := by
      obtain ⟨pl, ph⟩ := p
      obtain ⟨rl, rh⟩ := r
      simp only at e1 e2 e3 e4
      obtain rfl : pl = rl := by omega
      obtain rfl : ph = rh := by omega
      rfl
    subst e
    rw [canon B C fr p2 r2 fun x => ?_]
    constructor
    · intro hx
      have h5 := inL_lt p3 hx
      rcases inL_cons.1 ((h x).1 (inL_cons.2 (.inr hx))) with c | c
      · unfold inP at c; omega
      · exact c
    · intro hx
      have h5 := inL_lt r3 hx
      rcases inL_cons.1 ((h x).2 (inL_cons.2 (.inr hx))) with c | c
      · unfold inP at c; omega
      · exact c
theorem inL_take {fr to : Int} {l : List Pr} (h : Good fr to l) (k : Nat) (n : Int) (hk : k < l.length) (h1 : 1 ≤ n) (hf : fits n l[k] = true) (x : Int) : inL x (takeK l k n hk) ↔ inL x l ∧ ¬ ((l[k]).lo ≤ x ∧ x < (l[k]).lo + n) := by
  have hn : n ≤ (l[k]).len := of_decide_eq_true hf
  have hs : l = l.take k ++ l[k] :: l.drop (k + 1) := by rw [← List.drop_eq_getElem_cons hk, List.take_append_drop]
  have hset : l.set k ⟨(l[k]).lo + n, (l[k]).hi⟩ = l.take k ++ ⟨(l[k]).lo + n, (l[k]).hi⟩ :: l.drop (k + 1) := List.set_eq_take_append_cons_drop.trans (by rw [if_pos hk])
  have her : l.eraseIdx k = l.take k ++ l.drop (k + 1) := List.eraseIdx_eq_take_drop_succ _ _
  unfold takeK
  rw [hset, her]
  have hl : (l[k]).len = (l[k]).hi - (l[k]).lo := rfl
  have hg := h
  rw [hs] at hg
  have hin : inL x l ↔ inL x (l.take k ++ l[k] :: l.drop (k + 1)) := by rw [← hs]
  rw [hin]
  clear hin hs hset her h hf
  generalize l[k] = p at *
  generalize l.take k = A at *
  generalize l.drop (k + 1) = B at *
  obtain ⟨g1, g2, g3⟩ := good_append.1 hg
  obtain ⟨g4, g5, g6⟩ := good_cons.1 g2
  have hA : inL x A → x < p.lo := fun h => inL_gt (fun r hr => by have := g3 r hr p List.mem_cons_self; omega) h
  have hB : inL x B → p.hi < x := fun h => inL_lt g6 h
  by_cases e : p.len = n
  · rw [if_pos e, inL_append, inL_append, inL_cons]
    unfold inP
    constructor
    · rintro (c | c)
      · exact ⟨.inl c, by have := hA c; omega⟩
      · exact ⟨.inr (.inr c), by have := hB c; omega⟩
    · rintro ⟨c | c | c, d⟩
      · exact .inl c
      · omega
      · exact .inr c
  · rw [if_neg e, inL_append, inL_append, inL_cons, inL_cons]
    unfold inP
    constructor
    · rintro (c | c | c)
      · exact ⟨.inl c, by have := hA c; omega⟩
      · have c' : p.lo + n ≤ x ∧ x < p.hi := c
        exact ⟨.inr (.inl ⟨by omega, c'.2⟩), by omega⟩
      · exact ⟨.inr (.inr c), by have := hB c; omega⟩
    · rintro ⟨c | c | c, d⟩
      · exact .inl c
      · exact .inr (.inl (show p.lo + n ≤ x ∧ x < p.hi from ⟨by omega, c.2⟩))
      · exact .inr (.inr c)
theorem inP_merge {x : Int} {p y : Pr} (h : p.hi = y.lo) (hp : p.lo ≤ p.hi) (hy : y.lo ≤ y.hi) : inP x ⟨p.lo, y.hi⟩ ↔ inP x p ∨ inP x y := by
  unfold inP
  show p.lo ≤ x ∧ x < y.hi ↔ _
  omega
theorem inL_give {fr to : Int} {l : List Pr} (h : Good fr to l) (k : Nat) (p : Pr) (hk : k ≤ l.length) (hp : p.lo ≤ p.hi) (x : Int) : inL x (giveL l k p) ↔ inL x l ∨ inP x p := by
  obtain ⟨A, B, rfl, rfl⟩ : ∃ A B, l = A ++ B ∧ k = A.length := ⟨l.take k, l.drop k, (List.take_append_drop k l).symm, by rw [List.length_take]; omega⟩
  obtain ⟨g1, g2, g3⟩ := good_append.1 h
  unfold giveL
  rw [List.take_left' rfl, List.drop_left' rfl, giveL_right]
  obtain ⟨p', B', hB, h1, h2, h3⟩ : ∃ p' B', rightL A p B = A ++ p' :: B' ∧ p'.lo = p.lo ∧ p'.lo ≤ p'.hi ∧ ((inP x p' ∨ inL x B') ↔ (inP x p ∨ inL x B)) := by
    cases B with
    | nil => exact ⟨p, [], rfl, rfl, hp, Iff.rfl⟩
    | cons y B' =>
      obtain ⟨c1, c2, c3⟩ := good_cons.1 g2
      by_cases e : p.hi = y.lo
      · exact ⟨⟨p.lo, y.hi⟩, B', by simp [rightL, e], rfl, by show p.lo ≤ y.hi; omega, by rw [inP_merge e hp (by omega), inL_cons, or_assoc]⟩
      · exact ⟨p, y :: B', by simp [rightL, e], rfl, hp, Iff.rfl⟩
  rw [hB]
  clear hB
  rcases List.eq_nil_or_concat A with rfl | ⟨A', z, rfl⟩
  · rw [show ([] : List Pr).length = 0 from rfl, joinL_zero, List.nil_append, List.nil_append, inL_cons, h3]
    exact or_comm
  · rw [List.concat_eq_append] at g1 ⊢
    obtain ⟨a1, a2, a3⟩ := good_append.1 g1
    have hz := (good_cons.1 a2).1
    rw [List.append_assoc, List.singleton_append, List.length_append, show [z].length = 1 from rfl, joinL_mid]
    have hfin : (inL x A' ∨ inP x z ∨ (inP x p' ∨ inL x B')) ↔ (inL x (A' ++ [z] ++ B) ∨ inP x p) := by
      rw [h3, inL_append, inL_append, inL_cons]
      constructor
      · rintro (c | c | c | c)
        · exact .inl (.inl (.inl c))
        · exact .inl (.inl (.inr (.inl c)))
        · exact .inr c
        · exact .inl (.inr c)
      · rintro (((c | c | c) | c) | c)
        · exact .inl c
        · exact .inr (.inl c)
        · exact absurd c (inL_nil x)
        · exact .inr (.inr (.inr c))
        · exact .inr (.inr (.inl c))
    rw [← hfin]
    by_cases e : z.hi = p'.lo
    · rw [if_pos e, inL_append, inL_cons, inP_merge e (by omega) h2, or_assoc]
    · rw [if_neg e, inL_append, inL_cons, inL_cons]
end Go.Proofs.YtoeiemeffiiidaaDoor

namespace Go.Proofs.YtoeiemeffiiidaaDoor
set_option maxRecDepth 100000
set_option linter.unusedSimpArgs false
set_option linter.unusedVariables false
open Go.RowKit

/-- What Take answers, and what is left. -/
def takeF (n : Int) (l : List Pr) : (Int × Bool) × List Pr := if 1 ≤ n ∧ g16 n = true then (match h : l.findIdx? (fits n) with
  | some k => have hk : k < l.length := (List.findIdx?_eq_some_iff_getElem.1 h).1
    (((l[k]).lo, true), takeK l k n hk)
  | none => ((0, false), l)) else ((0, false), l)
theorem takeF_no {n : Int} {l : List Pr} (h : n < 1 ∨ g16 n = false ∨ l.findIdx? (fits n) = none) : takeF n l = ((0, false), l) := by
  unfold takeF
  split
  · rename_i hc
    split
    · rename_i k hk
      rcases h with h | h | h
      · omega
      · rw [hc.2] at h; cases h
      · rw [h] at hk; cases hk
    · rfl
  · rfl
theorem takeF_yes {n : Int} {l : List Pr} {k : Nat} (h1 : 1 ≤ n) (hg : g16 n = true) (hf : l.findIdx? (fits n) = some k) (hk : k < l.length) : takeF n l = (((l[k]).lo, true), takeK l k n hk) := by
  unfold takeF
  rw [if_pos ⟨h1, hg⟩]
  split
  · rename_i k' hk'
    obtain rfl : k = k' := by rw [hf] at hk'; exact Option.some.inj hk'
    rfl
  · rename_i hn
    rw [hf] at hn; cases hn
theorem oTake (w0 : World) (q base : Nat) (fr to : Int) (v : Value) (l : List Pr) (W : World) (h : EG w0 W q base fr to v l) (n : Int) : Calls Tryd.prog 41 #[.pointer (some ⟨q, 0, none⟩), .int .i64 n] W fun e w' => ∃ v', e = .returned (.tuple #[.int .i64 (takeF n l).1.1, .bool (takeF n l).1.2]) ∧ Hid (EG w0 w' q base fr to v' (takeF n l).2) ∧ Hid (Only (tch q v) W w') ∧ Hid (∀ g, v'.ownBlock = some g → v.ownBlock = some g ∨ W.heap.size ≤ g) := by
  obtain ⟨hE, hG, h0, h1⟩ := h
  by_cases hn : n < 1 ∨ g16 n = false ∨ l.findIdx? (fits n) = none
  · rw [takeF_no hn]
    refine (xTakeNo w0 q base fr to v l W hE (hG.okF h0 h1) (hG.len h0 h1) n hn).mono ?_
    rintro e w' ⟨rfl, hE', hX⟩
    exact ⟨v, rfl, hid ⟨hE'.out, hG, h0, h1⟩, hid (Only.ofExt hX.out), hid (fun g hg => .inl hg)⟩
  · obtain ⟨a1, a2⟩ := not_or.1 hn
    obtain ⟨a3, a4⟩ := not_or.1 a2
    have hn1 : 1 ≤ n := by omega
    have hg : g16 n = true := by simpa using a3
    rcases Option.eq_none_or_eq_some (l.findIdx? (fits n)) with hf | ⟨k, hf⟩
    · exact absurd hf a4
    · obtain ⟨hk, hfk, _⟩ := List.findIdx?_eq_some_iff_getElem.1 hf
      rw [takeF_yes hn1 hg hf hk]
      refine (take_yes q base fr to v l W hE.1 (hG.len h0 h1) (hG.okF h0 h1) n hn1 hg k hk hf).mono ?_
      rintro e w' ⟨v', rfl, hq, ho, hv⟩
      exact ⟨v', rfl, hid ⟨hE.upd hq.out ho.out, hG.take k n hk hn1 hfk, h0, h1⟩, ho, hid (fun g hg => .inl (hv g hg))⟩
/-- Where what is given back stands. -/
def kOf (x : Int) (l : List Pr) : Nat := match l.findIdx? (fun p => decide (x < p.hi)) with
  | some k => k
  | none => l.length
theorem kOf_is (x : Int) (l : List Pr) : kOf x l ≤ l.length ∧ (∀ (j : Nat) (hj : j < l.length), j < kOf x l → (l[j]).hi ≤ x) ∧ (∀ hk : kOf x l < l.length, x < (l[kOf x l]).hi) := by
  unfold kOf
  split
  · rename_i k h
    obtain ⟨hk, h1, h2⟩ := List.findIdx?_eq_some_iff_getElem.1 h
    refine ⟨Nat.le_of_lt hk, fun j hj hjk => ?_, fun _ => by simpa using h1⟩
    simpa using h2 j hjk
  · rename_i h
    refine ⟨Nat.le_refl _, fun j hj _ => ?_, fun hk => absurd hk (Nat.lt_irrefl _)⟩
    have := List.findIdx?_eq_none_iff.1 h _ (List.getElem_mem hj)
    simpa using this
/-- May it be given back? -/
def giveC (fr to at_ n : Int) (l : List Pr) : Prop := [at_, n].all g16 = true ∧ 1 ≤ n ∧ fr ≤ at_ ∧ at_ ≤ to ∧ n ≤ to - at_ ∧ ∀ hk : kOf at_ l < l.length, at_ + n ≤ (l[kOf at_ l]).lo
theorem oGive (w0 : World) (q base : Nat) (fr to : Int) (v : Value) (l : List Pr) (W : World) (h : EG w0 W q base fr to v l) (at_ n : Int) (hc : giveC fr to at_ n l) : Calls Tryd.prog 39 #[.pointer (some ⟨q, 0, none⟩), .int .i64 at_, .int .i64 n] W fun e w' => ∃ v', e = .returned (.bool true) ∧ Hid (EG w0 w' q base fr to v' (giveL l (kOf at_ l) ⟨at_, at_ + n⟩)) ∧ Hid (Only (tch q v) W w') ∧ Hid (∀ g, v'.ownBlock = some g → v.ownBlock = some g ∨ W.heap.size ≤ g) := by
  obtain ⟨hE, hG, h0, h1⟩ := h
  obtain ⟨hk1, hk2, hk3⟩ := kOf_is at_ l
  obtain ⟨hg, c1, c2, c3, c4, hge⟩ := hc
  have c5 : fr ≤ at_ ∧ at_ < at_ + n ∧ at_ + n ≤ to := by omega
  have hGG : Good fr to (giveL l (kOf at_ l) ⟨at_, at_ + n⟩) := hG.give (kOf at_ l) ⟨at_, at_ + n⟩ hk1 c5 hk2 hge
  have : Calls Tryd.prog 39 #[.pointer (some ⟨q, 0, none⟩), .int .i64 at_, .int .i64 n] W fun e w' => ∃ v', e = .returned (.bool true) ∧ Hid (Fr w' q base fr to v' (giveL l (kOf at_ l) ⟨at_, at_ + n⟩)) ∧ Hid (Only (tch q v) W w') ∧ (∀ g, v'.ownBlock = some g → v.ownBlock = some g ∨ W.heap.size ≤ g) := by
    by_cases hk : kOf at_ l < l.length
    · exact give_yes1 q base fr to v l W hE.1 at_ n hg h0 h1 c1 c2 c3 c4 (hG.len h0 h1) (hG.mono at_) (kOf at_ l) hk1 hk2 hk3 hk (hge hk)
    · exact give_yes0 q base fr to v l W hE.1 at_ n hg h0 h1 c1 c2 c3 c4 (hG.len h0 h1) (hG.mono at_) (kOf at_ l) hk1 hk2 hk3 (hid (Nat.le_antisymm hk1 (Nat.not_lt.1 hk)))
  refine this.mono ?_
  rintro e w' ⟨v', rfl, hq, ho, hv⟩
  exact ⟨v', rfl, hid ⟨hE.upd hq.out ho.out, hGG, h0, h1⟩, ho, hid hv⟩
theorem oGiveNo (w0 : World) (q base : Nat) (fr to : Int) (v : Value) (l : List Pr) (W : World) (h : EG w0 W q base fr to v l) (at_ n : Int) (hc : ¬ giveC fr to at_ n l) : Calls Tryd.prog 39 #[.pointer (some ⟨q, 0, none⟩), .int .i64 at_, .int .i64 n] W fun e w' => ∃ v', e = .returned (.bool false) ∧ Hid (EG w0 w' q base fr to v' l) ∧ Hid (Only (tch q v) W w') ∧ Hid (∀ g, v'.ownBlock = some g → v.ownBlock = some g ∨ W.heap.size ≤ g) := by
  obtain ⟨hE, hG, h0, h1⟩ := h
  obtain ⟨hk1, hk2, hk3⟩ := kOf_is at_ l
  have no : (Calls Tryd.prog 39 #[.pointer (some ⟨q, 0, none⟩), .int .i64 at_, .int .i64 n] W fun e w' => e = .returned (.bool false) ∧ Ext W w') → Calls Tryd.prog 39 #[.pointer (some ⟨q, 0, none⟩), .int .i64 at_, .int .i64 n] W fun e w' => ∃ v', e = .returned (.bool false) ∧ Hid (EG w0 w' q base fr to v' l) ∧ Hid (Only (tch q v) W w') ∧ Hid (∀ g, v'.ownBlock = some g → v.ownBlock = some g ∨ W.heap.size ≤ g) := fun hc => hc.mono (by
    rintro e w' ⟨rfl, hx⟩
    exact ⟨v, rfl, hid ⟨hE.ext hx, hG, h0, h1⟩, hid (Only.ofExt hx), hid (fun g hg => .inl hg)⟩)
  by_cases hg : [at_, n].all g16 = true
  · by_cases k0 : n < 1
    · exact no (give_n2 q base fr to v l W hE.1 at_ n hg k0)
    by_cases k1 : at_ < fr
    · exact no (give_n3 q base fr to v l W hE.1 at_ n hg (by omega) k1)
    by_cases k2 : to < at_
    · exact no (give_n4 q base fr to v l W hE.1 at_ n hg (by omega) (by omega) k2)
    by_cases k3 : to - at_ < n
    · exact no (give_n5 q base fr to v l W hE.1 at_ n hg h0 h1 (by omega) (by omega) (by omega) k3)
    have c1 : 1 ≤ n := by omega
    have c2 : fr ≤ at_ := by omega
    have c3 : at_ ≤ to := by omega
    have c4 : n ≤ to - at_ := by omega
    by_cases hge : ∀ hk : kOf at_ l < l.length, at_ + n ≤ (l[kOf at_ l]).lo
    · exact absurd ⟨hg, c1, c2, c3, c4, hge⟩ hc
    · obtain ⟨hk, hov⟩ := Classical.not_forall.1 hge
      exact no (give_n6 q base fr to v l W hE.1 at_ n hg h0 h1 c1 c2 c3 c4 (hG.len h0 h1) (hG.mono at_) (kOf at_ l) hk1 hk2 hk3 hk (Int.not_le.1 hov))
  · exact no (give_n1 q base fr to v l W hE.1 at_ n (Bool.eq_false_iff.2 hg))
end Go.Proofs.YtoeiemeffiiidaaDoor
