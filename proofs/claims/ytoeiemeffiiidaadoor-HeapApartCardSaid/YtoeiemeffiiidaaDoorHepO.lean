/- Layer 14: what is live, and kept apart, lies apart from what is free. -/
import Derived.Test.YtoeiemeffiiidaaDoorHepN
namespace Go.Proofs.YtoeiemeffiiidaaDoor
set_option linter.unusedSimpArgs false
set_option linter.unusedVariables false
open Go.RowKit

/-! ### Multiples of a granule -/
theorem g16_iff {x : Int} : g16 x = true ↔ 16 ∣ x := by
  unfold g16
  rw [decide_eq_true_iff]
  constructor
  · exact Int.dvd_of_tmod_eq_zero
  · exact Int.tmod_eq_zero_of_dvd
theorem g16_add {x y : Int} (h : g16 x = true) (k : g16 y = true) : g16 (x + y) = true := g16_iff.2 (Int.dvd_add (g16_iff.1 h) (g16_iff.1 k))
theorem g16_sub {x y : Int} (h : g16 x = true) (k : g16 y = true) : g16 (x - y) = true := g16_iff.2 (Int.dvd_sub (g16_iff.1 h) (g16_iff.1 k))
theorem g16_two {x y : Int} (h : g16 x = true) (k : g16 y = true) : [x, y].all g16 = true := by simp [h, k]
def G16 (l : List Pr) : Prop := ∀ p ∈ l, g16 p.lo = true ∧ g16 p.hi = true
theorem G16.take {l : List Pr} (h : G16 l) (k : Nat) (n : Int) (hk : k < l.length) (hg : g16 n = true) : G16 (takeK l k n hk) := by
  intro p hp
  unfold takeK at hp
  split at hp
  · exact h p (List.mem_of_mem_eraseIdx hp)
  · rcases List.mem_or_eq_of_mem_set hp with hp | rfl
    · exact h p hp
    · have := h _ (List.getElem_mem hk)
      exact ⟨g16_add this.1 hg, this.2⟩
theorem G16.joinL {l : List Pr} (h : G16 l) (i : Nat) : G16 (joinL l i) := by
  unfold Go.Proofs.YtoeiemeffiiidaaDoor.joinL
  split
  · rename_i hc
    split
    · intro p hp
      rcases List.mem_or_eq_of_mem_set (List.mem_of_mem_eraseIdx hp) with hp | rfl
      · exact h p hp
      · exact ⟨(h _ (List.getElem_mem _)).1, (h _ (List.getElem_mem _)).2⟩
    · exact h
  · exact h
theorem G16.give {l : List Pr} (h : G16 l) (k : Nat) (p : Pr) (hp : g16 p.lo = true ∧ g16 p.hi = true) : G16 (giveL l k p) := by
  unfold giveL
  refine G16.joinL (G16.joinL (fun q hq => ?_) _) _
  rcases List.mem_append.1 hq with hq | hq
  · exact h q (List.mem_of_mem_take hq)
  · rcases List.mem_cons.1 hq with rfl | hq
    · exact hp
    · exact h q (List.mem_of_mem_drop hq)

/-! ### What Take leaves -/
theorem takeF_falseW {fr tu n : Int} {l : List Pr} (h : (takeF n l).1.2 = false) : takeF n l = ((0, false), l) := by
  by_cases hn : n < 1 ∨ g16 n = false ∨ l.findIdx? (fits n) = none
  · exact takeF_no hn
  · obtain ⟨a1, a2⟩ := not_or.1 hn
    obtain ⟨a3, a4⟩ := not_or.1 a2
    rcases Option.eq_none_or_eq_some (l.findIdx? (fits n)) with hf | ⟨k, hf⟩
    · exact absurd hf a4
    · obtain ⟨hk, _, _⟩ := List.findIdx?_eq_some_iff_getElem.1 hf
      rw [takeF_yes (by omega) (by simpa using a3) hf hk] at h
      cases h
theorem sumP_nilW : sumP [] = 0 := rfl
theorem sumP_consW (p : Pr) (l : List Pr) : sumP (p :: l) = p.len + sumP l := by simp [sumP]
theorem sumP_append (l m : List Pr) : sumP (l ++ m) = sumP l + sumP m := by simp [sumP]
theorem sumP_take (l : List Pr) (k : Nat) (n : Int) (hk : k < l.length) : sumP (takeK l k n hk) = sumP l - n := by
  have hs : sumP l = sumP (l.take k) + ((l[k]).len + sumP (l.drop (k + 1))) := by
    rw [← sumP_consW, ← sumP_append, ← List.drop_eq_getElem_cons hk, List.take_append_drop]
  have hset : l.set k ⟨(l[k]).lo + n, (l[k]).hi⟩ = l.take k ++ ⟨(l[k]).lo + n, (l[k]).hi⟩ :: l.drop (k + 1) := List.set_eq_take_append_cons_drop.trans (by rw [if_pos hk])
  have her : l.eraseIdx k = l.take k ++ l.drop (k + 1) := List.eraseIdx_eq_take_drop_succ _ _
  unfold takeK
  rw [hset, her]
  split
  · rename_i e
    rw [sumP_append, hs]
    omega
  · rw [sumP_append, sumP_consW, hs]
    have e1 : Pr.len ⟨(l[k]).lo + n, (l[k]).hi⟩ = (l[k]).len - n := by unfold Pr.len; simp only; omega
    rw [e1]
    omega
theorem sumP_joinL (l : List Pr) (i : Nat) : sumP (joinL l i) = sumP l := by
  unfold joinL
  split
  · rename_i hc
    split
    · rename_i he
      obtain ⟨h1, h2⟩ := hc
      have e0 : l = l.take (i - 1) ++ l[i - 1]'(by omega) :: l[i]'h2 :: l.drop (i + 1) := by
        conv => lhs; rw [← List.take_append_drop (i - 1) l]
        rw [List.drop_eq_getElem_cons (by omega)]
        congr 2
        have : i - 1 + 1 = i := by omega
        rw [this, List.drop_eq_getElem_cons h2]
      have hlt : (l.take (i - 1)).length = i - 1 := by rw [List.length_take]; omega
      generalize hA : l.take (i - 1) = A at e0 hlt
      generalize hB : l.drop (i + 1) = B at e0
      generalize hx : l[i - 1]'(by omega) = x at e0 he ⊢
      generalize hy : l[i]'h2 = y at e0 he ⊢
      have e1 : (l.set (i - 1) ⟨x.lo, y.hi⟩).eraseIdx i = A ++ ⟨x.lo, y.hi⟩ :: B := by
        conv => lhs; rw [e0]
        rw [List.set_append_right _ _ (by omega), List.eraseIdx_append_of_length_le (by omega), hlt]
        simp only [Nat.sub_self, List.set_cons_zero]
        rw [show i - (i - 1) = 1 by omega]
        rfl
      rw [e1]
      conv => rhs; rw [e0]
      simp only [sumP_append, sumP_consW]
      unfold Pr.len
      simp only
      omega
    · rfl
  · rfl
theorem sumP_give (l : List Pr) (k : Nat) (p : Pr) : sumP (giveL l k p) = sumP l + p.len := by
  unfold giveL
  rw [sumP_joinL, sumP_joinL, sumP_append, sumP_consW]
  have : sumP l = sumP (l.take k) + sumP (l.drop k) := by rw [← sumP_append, List.take_append_drop]
  omega
theorem takeF_yesT {fr tu n : Int} {l : List Pr} (hG : Good fr tu l) (h6 : G16 l) (h : (takeF n l).1.2 = true) :
    1 ≤ n ∧ g16 n = true ∧ g16 (takeF n l).1.1 = true ∧ fr ≤ (takeF n l).1.1 ∧ (takeF n l).1.1 + n ≤ tu ∧ (∀ y, (takeF n l).1.1 ≤ y → y < (takeF n l).1.1 + n → inL y l) ∧
      (∀ y, inL y (takeF n l).2 ↔ inL y l ∧ ¬ ((takeF n l).1.1 ≤ y ∧ y < (takeF n l).1.1 + n)) ∧ G16 (takeF n l).2 ∧ Good fr tu (takeF n l).2 ∧ sumP (takeF n l).2 = sumP l - n := by
  by_cases hn : n < 1 ∨ g16 n = false ∨ l.findIdx? (fits n) = none
  · rw [takeF_no hn] at h
    cases h
  · obtain ⟨a1, a2⟩ := not_or.1 hn
    obtain ⟨a3, a4⟩ := not_or.1 a2
    have hn1 : 1 ≤ n := by omega
    have hg : g16 n = true := by simpa using a3
    rcases Option.eq_none_or_eq_some (l.findIdx? (fits n)) with hf | ⟨k, hf⟩
    · exact absurd hf a4
    · obtain ⟨hk, hfk, _⟩ := List.findIdx?_eq_some_iff_getElem.1 hf
      rw [takeF_yes hn1 hg hf hk]
      have hb := hG.2 _ (List.getElem_mem hk)
      have hlen : n ≤ (l[k]).len := of_decide_eq_true hfk
      unfold Pr.len at hlen
      refine ⟨hn1, hg, (h6 _ (List.getElem_mem hk)).1, hb.1, ?_, fun y h1 h2 => ⟨l[k], List.getElem_mem hk, h1, ?_⟩, fun y => inL_take hG k n hk hn1 hfk y, h6.take k n hk hg, hG.take k n hk hn1 hfk, sumP_take l k n hk⟩
      · show (l[k]).lo + n ≤ tu; omega
      · have h2' : y < (l[k]).lo + n := h2; omega

/-! ### What Give asks, and leaves -/
theorem giveC_of {fr tu at_ n : Int} {l : List Pr} (hG : Good fr tu l) (h1 : g16 at_ = true) (h2 : g16 n = true) (h3 : 1 ≤ n) (h4 : fr ≤ at_) (h5 : at_ + n ≤ tu) (hno : ∀ y, at_ ≤ y → y < at_ + n → ¬ inL y l) : giveC fr tu at_ n l := by
  refine ⟨g16_two h1 h2, h3, h4, by omega, by omega, fun hk => ?_⟩
  have hh := (kOf_is at_ l).2.2 hk
  have hb := hG.2 _ (List.getElem_mem hk)
  generalize hp : l[kOf at_ l] = p at hh hb ⊢
  have hm : p ∈ l := by rw [← hp]; exact List.getElem_mem hk
  rcases Int.lt_or_le p.lo (at_ + n) with c | c
  · exfalso
    rcases Int.lt_or_le p.lo at_ with d | d
    · exact hno at_ (by omega) (by omega) ⟨p, hm, by unfold inP; omega⟩
    · exact hno p.lo d c ⟨p, hm, by unfold inP; omega⟩
  · exact c
theorem giveC_apart {fr tu at_ n : Int} {l : List Pr} (hG : Good fr tu l) (h : giveC fr tu at_ n l) : ∀ y, at_ ≤ y → y < at_ + n → ¬ inL y l := by
  rintro y h1 h2 ⟨p, hp, h3⟩
  obtain ⟨j, hj, rfl⟩ := List.mem_iff_getElem.1 hp
  obtain ⟨_, c1, _, _, _, c⟩ := h
  obtain ⟨k1, k2, k3⟩ := kOf_is at_ l
  unfold inP at h3
  by_cases hjk : j < kOf at_ l
  · have := k2 j hj hjk; omega
  · have hk : kOf at_ l < l.length := by omega
    have hc := c hk
    have hlo : (l[kOf at_ l]).lo ≤ (l[j]).lo := by
      rcases Nat.eq_or_lt_of_le (Nat.le_of_not_lt hjk) with e | e
      · simp only [e]; exact Int.le_refl _
      · have h5 := (List.pairwise_iff_getElem.1 hG.1) (kOf at_ l) j hk hj e
        have h6 := (hG.2 _ (List.getElem_mem hk)).2.1
        omega
    omega
theorem giveC_good {fr tu at_ n : Int} {l : List Pr} (hG : Good fr tu l) (h : giveC fr tu at_ n l) : Good fr tu (giveL l (kOf at_ l) ⟨at_, at_ + n⟩) ∧ (∀ y, inL y (giveL l (kOf at_ l) ⟨at_, at_ + n⟩) ↔ inL y l ∨ inP y ⟨at_, at_ + n⟩) ∧ sumP (giveL l (kOf at_ l) ⟨at_, at_ + n⟩) = sumP l + n := by
  obtain ⟨k1, k2, k3⟩ := kOf_is at_ l
  obtain ⟨_, c1, c2, c3, c4, c⟩ := h
  refine ⟨hG.give _ ⟨at_, at_ + n⟩ k1 (by show fr ≤ at_ ∧ at_ < at_ + n ∧ at_ + n ≤ tu; omega) k2 c, fun y => inL_give hG _ ⟨at_, at_ + n⟩ k1 (by show at_ ≤ at_ + n; omega) y, ?_⟩
  rw [sumP_give]
  unfold Pr.len
  simp only
  omega

/-! ### What is held -/
/-- What is held lies apart from what is free, and each from each. -/
structure Held (fr tu : Int) (l m : List Pr) : Prop where
  ok : ∀ x ∈ m, g16 x.lo = true ∧ g16 x.hi = true ∧ fr ≤ x.lo ∧ x.lo < x.hi ∧ x.hi ≤ tu
  each : m.Pairwise (fun x y => ∀ z, inP z x → ¬ inP z y)
  free : ∀ x ∈ m, ∀ z, inP z x → ¬ inL z l
theorem Held.nil (fr tu : Int) (l : List Pr) : Held fr tu l [] := ⟨(fun _ h => nomatch h), List.Pairwise.nil, (fun _ h => nomatch h)⟩
theorem Held.less {fr tu : Int} {l l' m : List Pr} (h : Held fr tu l m) (hl : ∀ z, inL z l' → inL z l) : Held fr tu l' m := ⟨h.ok, h.each, fun x hx z hz hc => h.free x hx z hz (hl z hc)⟩
theorem Held.add {fr tu : Int} {l l' m : List Pr} (h : Held fr tu l m) {p : Pr} (hp : g16 p.lo = true ∧ g16 p.hi = true ∧ fr ≤ p.lo ∧ p.lo < p.hi ∧ p.hi ≤ tu) (hin : ∀ z, inP z p → inL z l) (hl : ∀ z, inL z l' ↔ inL z l ∧ ¬ inP z p) : Held fr tu l' (m ++ [p]) := by
  refine ⟨fun x hx => ?_, ?_, fun x hx z hz hc => ?_⟩
  · rcases List.mem_append.1 hx with hx | hx
    · exact h.ok x hx
    · obtain rfl : x = p := by simpa using hx
      exact hp
  · refine List.pairwise_append.2 ⟨h.each, List.pairwise_singleton _ _, fun x hx y hy z hz hc => ?_⟩
    obtain rfl : y = p := by simpa using hy
    exact h.free x hx z hz (hin z hc)
  · have := (hl z).1 hc
    rcases List.mem_append.1 hx with hx | hx
    · exact h.free x hx z hz this.1
    · obtain rfl : x = p := by simpa using hx
      exact this.2 hz

theorem and4095 (x : Int) : 0 ≤ bits .and .i64 x 4095 ∧ bits .and .i64 x 4095 ≤ 4095 := by
  have h : bits .and .i64 x 4095 = IntKind.i64.wrap ((BitVec.ofInt 64 x &&& BitVec.ofInt 64 4095).toNat : Int) := rfl
  rw [h, BitVec.toNat_and]
  have h2 : (BitVec.ofInt 64 4095).toNat = 4095 := by decide
  rw [h2]
  have h3 : (BitVec.ofInt 64 x).toNat &&& 4095 ≤ 4095 := Nat.and_le_right
  generalize (BitVec.ofInt 64 x).toNat &&& 4095 = y at h3
  rw [IntKind.wrap_i64]
  omega
/-- What was taken, and kept, as runs. -/
structure OA (fr tu : Int) (l m : List Pr) : Prop where
  g : G16 l
  held : Held fr tu l m
  sum : sumP l + sumP m = tu - fr
theorem OA.start {fr tu : Int} {l : List Pr} (h : G16 l) (hs : sumP l = tu - fr) : OA fr tu l [] := ⟨h, Held.nil _ _ _, by rw [sumP_nilW, hs]; omega⟩
section
variable {fr tu n xa : Int} {l l2 m : List Pr}
theorem OA.add (hi : OA fr tu l m) (hG : Good fr tu l) (ht : takeF n l = ((xa, true), l2)) : OA fr tu l2 (m ++ [Pr.mk xa (xa + n)]) := by
  have H := takeF_yesT hG hi.g (by rw [ht])
  rw [ht] at H
  obtain ⟨h1, h2, h3, h4, h5, h6, h7, h8, _, hs⟩ := H
  refine ⟨h8, hi.held.add ⟨h3, g16_add h3 h2, h4, ?_, h5⟩ (fun z hz => h6 z hz.1 hz.2) (fun z => h7 z), ?_⟩
  · show xa < xa + n; omega
  · rw [sumP_append, sumP_consW, sumP_nilW, hs]
    have := hi.sum
    unfold Pr.len
    simp only
    omega
theorem OA.fits (hi : OA fr tu l m) (hG : Good fr tu l) (ht : takeF n l = ((xa, true), l2)) : 1 ≤ n ∧ fr ≤ xa ∧ xa + n ≤ tu := by
  have H := takeF_yesT hG hi.g (by rw [ht])
  rw [ht] at H
  exact ⟨H.1, H.2.2.2.1, H.2.2.2.2.1⟩
theorem OA.can (hi : OA fr tu l m) (hG : Good fr tu l) {k : Nat} (hk : k < m.length) : giveC fr tu (m[k]).lo ((m[k]).hi - (m[k]).lo) l := by
  have ok := hi.held.ok _ (List.getElem_mem hk)
  have fre := hi.held.free _ (List.getElem_mem hk)
  refine giveC_of hG ok.1 (g16_sub ok.2.1 ok.1) (by omega) ok.2.2.1 (by omega) fun y h1 h2 => fre y ⟨h1, by omega⟩
theorem OA.give (hi : OA fr tu l m) (hG : Good fr tu l) {k : Nat} (hk : k < m.length) : OA fr tu (giveL l (kOf (m[k]).lo l) ⟨(m[k]).lo, (m[k]).lo + ((m[k]).hi - (m[k]).lo)⟩) (m.eraseIdx k) := by
  have hc := hi.can hG hk
  obtain ⟨g1, g2, g3⟩ := giveC_good hG hc
  have ok := hi.held.ok _ (List.getElem_mem hk)
  have hs : m = m.take k ++ m[k] :: m.drop (k + 1) := by rw [← List.drop_eq_getElem_cons hk, List.take_append_drop]
  have her : m.eraseIdx k = m.take k ++ m.drop (k + 1) := List.eraseIdx_eq_take_drop_succ _ _
  have he : (m[k]).lo + ((m[k]).hi - (m[k]).lo) = (m[k]).hi := by omega
  rw [he] at g2 g3 ⊢
  refine ⟨hi.g.give _ _ ⟨ok.1, ok.2.1⟩, ⟨fun x hx => hi.held.ok x (List.mem_of_mem_eraseIdx hx), hi.held.each.sublist (List.eraseIdx_sublist _ _), fun x hx z hz hc => ?_⟩, ?_⟩
  · rcases (g2 z).1 hc with c | c
    · exact hi.held.free x (List.mem_of_mem_eraseIdx hx) z hz c
    · have hp := hi.held.each
      rw [hs] at hp
      rw [her] at hx
      obtain ⟨p1, p2, p3⟩ := List.pairwise_append.1 hp
      obtain ⟨p4, p5⟩ := List.pairwise_cons.1 p2
      rcases List.mem_append.1 hx with hx | hx
      · exact p3 x hx _ List.mem_cons_self z hz c
      · exact p4 x hx z c hz
  · have h1 : sumP m = sumP (m.take k) + ((m[k]).len + sumP (m.drop (k + 1))) := by
      rw [← sumP_consW, ← sumP_append, ← hs]
    have h2 := hi.sum
    rw [g3, her, sumP_append]
    unfold Pr.len at h1
    omega
theorem OA.bd (hi : OA fr tu l m) (hG : Good fr tu l) : ∀ x ∈ m ++ l, fr ≤ x.lo ∧ x.lo < x.hi ∧ x.hi ≤ tu := fun x hx => by
  rcases List.mem_append.1 hx with hx | hx
  · exact (hi.held.ok x hx).2.2
  · exact hG.2 x hx
theorem OA.dis (hi : OA fr tu l m) (hG : Good fr tu l) : (m ++ l).Pairwise (fun x y => ¬ (x.lo < y.hi ∧ y.lo < x.hi)) := by
  have hb := hi.bd hG
  refine List.pairwise_append.2 ⟨?_, ?_, fun x hx y hy hc => ?_⟩
  · refine hi.held.each.imp_of_mem fun {a b} ha hb' hab hc => ?_
    have h1 := hb a (List.mem_append_left _ ha)
    have h2 := hb b (List.mem_append_left _ hb')
    rcases Int.lt_or_le a.lo b.lo with c | c
    · exact hab b.lo (by unfold inP; omega) (by unfold inP; omega)
    · exact hab a.lo (by unfold inP; omega) (by unfold inP; omega)
  · exact hG.1.imp fun {a b} hab => by omega
  · have h1 := hb x (List.mem_append_left _ hx)
    have h2 := hb y (List.mem_append_right _ hy)
    rcases Int.lt_or_le x.lo y.lo with c | c
    · exact hi.held.free x hx y.lo (by unfold inP; omega) ⟨y, hy, by unfold inP; omega⟩
    · exact hi.held.free x hx x.lo (by unfold inP; omega) ⟨y, hy, by unfold inP; omega⟩
end
theorem Held.perm {fr tu : Int} {l m m' : List Pr} (h : Held fr tu l m) (p : m.Perm m') : Held fr tu l m' :=
  ⟨fun x hx => h.ok x (p.mem_iff.2 hx), (p.pairwise_iff (fun {a b} hab z hz hb => hab z hb hz)).1 h.each, fun x hx => h.free x (p.mem_iff.2 hx)⟩
theorem sumP_perm {m m' : List Pr} (p : m.Perm m') : sumP m = sumP m' := by
  induction p with
  | nil => rfl
  | cons a _ ih => rw [sumP_consW, sumP_consW, ih]
  | swap a b l => rw [sumP_consW, sumP_consW, sumP_consW, sumP_consW]; omega
  | trans _ _ h1 h2 => exact h1.trans h2
theorem OA.perm {fr tu : Int} {l m m' : List Pr} (h : OA fr tu l m) (p : m.Perm m') : OA fr tu l m' := ⟨h.g, h.held.perm p, by rw [← sumP_perm p]; exact h.sum⟩
theorem OA.give1 {fr tu : Int} {l m : List Pr} {a n : Int} (hi : OA fr tu l (⟨a, a + n⟩ :: m)) (hG : Good fr tu l) : giveC fr tu a n l ∧ OA fr tu (giveL l (kOf a l) ⟨a, a + n⟩) m ∧ Good fr tu (giveL l (kOf a l) ⟨a, a + n⟩) := by
  have h1 := hi.can hG (k := 0) (by simp)
  have h2 := hi.give hG (k := 0) (by simp)
  have e : a + n - a = n := by omega
  simp only [List.getElem_cons_zero, List.eraseIdx_cons_zero, e] at h1 h2
  exact ⟨h1, h2, (giveC_good hG h1).1⟩
def lvP (z : Lv) : Pr := ⟨z.at_, z.at_ + z.takes⟩
def lqP (z : Hd) : Pr := ⟨z.at_, z.at_ + z.n⟩
/-- What is live, and what is kept apart, as runs. -/
def ivP (x : HSt) : List Pr := x.lv.map lvP ++ x.lq.map lqP
def HI (fr tu : Int) (x : HSt) : Prop := OA fr tu x.lf (ivP x) ∧ Good fr tu x.lf
theorem giveAll_OA {fr tu : Int} : ∀ (A : List Hd) (lf m : List Pr), OA fr tu lf (A.map lqP ++ m) → Good fr tu lf → OA fr tu (giveAll fr tu lf A) m ∧ Good fr tu (giveAll fr tu lf A)
  | [], lf, m, h, hG => ⟨h, hG⟩
  | z :: A, lf, m, h, hG => by
    obtain ⟨h1, h2, h3⟩ := OA.give1 (a := z.at_) (n := z.n) h hG
    have e : giveS fr tu lf z = giveL lf (kOf z.at_ lf) ⟨z.at_, z.at_ + z.n⟩ := by unfold giveS; rw [if_pos h1]
    have := giveAll_OA A (giveS fr tu lf z) m (by rw [e]; exact h2) (by rw [e]; exact h3)
    exact this
theorem HI.al {fr tu : Int} {x : HSt} (h : HI fr tu x) (m : Int) : HI fr tu (x.al m) := by
  cases hk : alOk x m with
  | false => rw [al_no hk]; exact h
  | true =>
    obtain ⟨h1, h2⟩ := h
    obtain ⟨_, k2⟩ := alOk_take hk
    have ht : takeF (roundT m) x.lf = ((alAt x m, true), (x.al m).lf) := by
      unfold alAt HSt.al
      rw [if_pos hk]
      simp only
      rw [← k2]
    have := h1.add h2 ht
    have hG := (takeF_yesT h2 h1.g k2).2.2.2.2.2.2.2.2.1
    refine ⟨?_, by rw [ht] at hG; exact hG⟩
    refine this.perm ?_
    unfold ivP
    rw [al_lv hk, (al_lq x m).1, List.map_append]
    show ((x.lv.map lvP ++ x.lq.map lqP) ++ [lvP ⟨alAt x m, max m 1, roundT m⟩]).Perm ((x.lv.map lvP ++ [lvP ⟨alAt x m, max m 1, roundT m⟩]) ++ x.lq.map lqP)
    rw [List.append_assoc, List.append_assoc]
    exact List.Perm.append_left _ List.perm_append_comm
theorem free_lv {x : HSt} {c : Cap} (k : ofE x.lv c = 0) : ∃ (i : Nat) (hi : i < x.lv.length), (x.lv[i]).at_ = c.base ∧ c.top = c.base + (x.lv[i]).asked ∧ ofB x.lv c = x.lv[i] ∧ x.free c = { x with lv := x.lv.eraseIdx i, lq := x.lq ++ [⟨(x.lv[i]).at_, (x.lv[i]).takes, x.t⟩] } := by
  obtain ⟨i, h1, h2, h3, h4, h5⟩ := ofE_zero k
  obtain ⟨hi, h6⟩ := idxL_some h1
  have hd : x.lv.getD i default = x.lv[i] := by simp [List.getD, List.getElem?_eq_getElem hi]
  rw [hd] at h4 h5
  refine ⟨i, hi, h6, h4, h5, ?_⟩
  unfold HSt.free
  rw [if_pos k, h1, h5, h6]
  rfl
theorem HI.free {fr tu : Int} {x : HSt} (h : HI fr tu x) (c : Cap) : HI fr tu (x.free c) := by
  by_cases k : ofE x.lv c = 0
  · obtain ⟨i, hi, _, _, _, e⟩ := free_lv k
    rw [e]
    refine ⟨h.1.perm ?_, h.2⟩
    have hs : x.lv = x.lv.take i ++ x.lv[i] :: x.lv.drop (i + 1) := by rw [← List.drop_eq_getElem_cons hi, List.take_append_drop]
    have her : x.lv.eraseIdx i = x.lv.take i ++ x.lv.drop (i + 1) := List.eraseIdx_eq_take_drop_succ _ _
    have q : lqP ⟨(x.lv[i]).at_, (x.lv[i]).takes, x.t⟩ = lvP x.lv[i] := rfl
    unfold ivP
    simp only
    rw [her, List.map_append, List.map_append, List.map_cons, List.map_nil, q]
    conv => lhs; rw [hs]
    rw [List.map_append, List.map_cons, List.append_assoc, List.append_assoc, List.cons_append]
    refine List.Perm.append_left _ ?_
    generalize (x.lv.drop (i + 1)).map lvP = D
    generalize x.lq.map lqP = Q
    rw [← List.append_assoc]
    exact (List.perm_append_comm (l₁ := [lvP x.lv[i]]) (l₂ := D ++ Q))
  · have : x.free c = x := by unfold HSt.free; rw [if_neg k]
    rw [this]
    exact h
theorem HI.beg {fr tu : Int} {x : HSt} (h : HI fr tu x) (n : Nat) : HI fr tu (x.beg n) := by
  unfold HSt.beg
  split
  · exact h
  · exact h
theorem HI.endd {fr tu : Int} {x : HSt} (h : HI fr tu x) (n : Nat) : HI fr tu (x.endd n fr tu) := by
  unfold HSt.endd
  split
  · generalize hA : x.lq.takeWhile (dueB (x.t + 1)) = A
    have hs : x.lq = A ++ x.lq.drop A.length := by
      have hp : A <+: x.lq := by rw [← hA]; exact List.takeWhile_prefix _
      obtain ⟨B, hB⟩ := hp
      rw [← hB, List.drop_left]
    refine giveAll_OA A x.lf _ (h.1.perm ?_) h.2
    unfold ivP
    simp only
    conv => lhs; rw [hs]
    rw [List.map_append, ← List.append_assoc, ← List.append_assoc]
    exact List.Perm.append_right _ List.perm_append_comm
  · exact h
theorem sumP_lv : ∀ l : List Lv, sumP (l.map lvP) = takesL l
  | [] => rfl
  | z :: l => by
    have := sumP_lv l
    unfold takesL at this ⊢
    rw [List.map_cons, List.map_cons, List.sum_cons, sumP_consW, this]
    unfold lvP Pr.len
    simp only
    omega
theorem sumP_lq : ∀ l : List Hd, sumP (l.map lqP) = sumL l
  | [] => rfl
  | z :: l => by
    have := sumP_lq l
    rw [List.map_cons, sumL_cons, sumP_consW, this]
    unfold lqP Pr.len
    simp only
    omega
theorem HI.sum {fr tu : Int} {x : HSt} (h : HI fr tu x) : sumP x.lf + (takesL x.lv + sumL x.lq) = tu - fr := by
  have := h.1.sum
  unfold ivP at this
  rwa [sumP_append, sumP_lv, sumP_lq] at this
theorem HI.ap {fr tu : Int} {x : HSt} (h : HI fr tu x) : ApL x.lv x.lf := by
  intro z hz p hp hc
  have hm : lvP z ∈ ivP x := List.mem_append_left _ (List.mem_map_of_mem hz)
  have h1 := h.1.held.ok _ hm
  exact h.1.held.free _ hm z.at_ ⟨Int.le_refl _, by have := h1.2.2.2.1; exact this⟩ ⟨p, hp, hc⟩
theorem HI.nonneg {fr tu : Int} {x : HSt} (h : HI fr tu x) : 0 ≤ sumP x.lf ∧ 0 ≤ takesL x.lv ∧ 0 ≤ sumL x.lq := by
  have pos : ∀ k : List Pr, (∀ x ∈ k, x.lo < x.hi) → 0 ≤ sumP k := by
    intro k
    induction k with
    | nil => intro _; exact Int.le_refl _
    | cons a k ih =>
      intro hk
      have h1 := hk a List.mem_cons_self
      have h2 := ih fun x hx => hk x (List.mem_cons_of_mem _ hx)
      rw [sumP_consW]
      unfold Pr.len
      omega
  refine ⟨pos _ fun p hp => (h.2.2 p hp).2.1, ?_, ?_⟩
  · rw [← sumP_lv]
    exact pos _ fun p hp => (h.1.held.ok p (List.mem_append_left _ hp)).2.2.2.1
  · rw [← sumP_lq]
    exact pos _ fun p hp => (h.1.held.ok p (List.mem_append_right _ hp)).2.2.2.1
theorem g16_512 (a : Int) : g16 512 = true ∧ g16 (512 + 16 * a) = true := ⟨by decide, g16_iff.2 ⟨32 + a, by omega⟩⟩
theorem HI.start {fr tu : Int} (P : Nat → Bool) (h0 : g16 fr = true) (h1 : g16 tu = true) (h : fr ≤ tu) : HI fr tu ⟨0, [], frL fr tu, P, []⟩ := by
  have e : frL fr tu = [] ∨ fr < tu ∧ frL fr tu = [⟨fr, tu⟩] := by
    unfold frL
    split
    · exact .inl rfl
    · exact .inr ⟨by omega, rfl⟩
  refine ⟨OA.start ?_ (frL_sum fr tu), ?_⟩
  · rcases e with e | ⟨_, e⟩ <;> rw [e]
    · exact fun p hp => nomatch hp
    · exact fun p hp => by obtain rfl : p = ⟨fr, tu⟩ := by simpa using hp
                           exact ⟨h0, h1⟩
  · rcases e with e | ⟨c, e⟩ <;> rw [e]
    · exact Good.nil _ _
    · exact Good.one c
/-- How much there can be behind so many calls. -/
def HB (k : Nat) (x : HSt) : Prop := x.lv.length ≤ k ∧ x.lq.length ≤ k ∧ 0 ≤ x.t ∧ x.t ≤ k
theorem HB.al {k : Nat} {x : HSt} (h : HB k x) (m : Int) : HB (k + 1) (x.al m) := by
  obtain ⟨h1, h2, h3, h4⟩ := h
  cases hk : alOk x m with
  | false => rw [al_no hk]; exact ⟨by omega, by omega, by omega, by omega⟩
  | true => exact ⟨by rw [(al_takes hk).2]; omega, by rw [(al_lq x m).1]; omega, by rw [(al_lq x m).2]; omega, by rw [(al_lq x m).2]; omega⟩
theorem HB.free {k : Nat} {x : HSt} (h : HB k x) (c : Cap) : HB (k + 1) (x.free c) := by
  obtain ⟨h1, h2, h3, h4⟩ := h
  by_cases e : ofE x.lv c = 0
  · obtain ⟨i, hi, _, _, _, e⟩ := free_lv e
    rw [e]
    exact ⟨by simp only [List.length_eraseIdx]; split <;> omega, by simp only [List.length_append, List.length_cons, List.length_nil]; omega, h3, by show x.t ≤ _; omega⟩
  · have : x.free c = x := by unfold HSt.free; rw [if_neg e]
    rw [this]
    exact ⟨by omega, by omega, by omega, by omega⟩
theorem HB.beg {k : Nat} {x : HSt} (h : HB k x) (n : Nat) : HB (k + 1) (x.beg n) := by
  obtain ⟨h1, h2, h3, h4⟩ := h
  unfold HSt.beg
  split
  · exact ⟨by omega, by omega, by omega, by omega⟩
  · exact ⟨by simp only; omega, by simp only; omega, by simp only; omega, by simp only; omega⟩
theorem HB.endd {k : Nat} {x : HSt} (h : HB k x) (n : Nat) (fr tu : Int) : HB (k + 1) (x.endd n fr tu) := by
  obtain ⟨h1, h2, h3, h4⟩ := h
  unfold HSt.endd
  split
  · exact ⟨by simp only; omega, by simp only [List.length_drop]; omega, by simp only; omega, by simp only; omega⟩
  · exact ⟨by omega, by omega, by omega, by omega⟩
theorem HB.up {k : Nat} {x : HSt} (h : HB k x) : HB (k + 1) x := by
  obtain ⟨h1, h2, h3, h4⟩ := h
  exact ⟨by omega, by omega, by omega, by omega⟩

end Go.Proofs.YtoeiemeffiiidaaDoor
