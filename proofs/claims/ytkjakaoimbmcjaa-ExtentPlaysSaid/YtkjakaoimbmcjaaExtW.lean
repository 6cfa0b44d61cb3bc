/- Layer 12: what is held beside what is free. -/
import Derived.Test.YtkjakaoimbmcjaaExtV
namespace Go.Proofs.Ytkjakaoimbmcjaa
set_option linter.unusedSimpArgs false
set_option linter.unusedVariables false
open Go.RowKit

/-! ### Multiples of a granule -/
theorem g16_iff {x : Int} : g16 x = true ↔ 16 ∣ x := by
  unfold g16
  rw [decide_eq_true_iff]
  constructor
  · exact Int.dvd_of_tmod_eq_zero
  · exact Int.tmod_eq_zero_of_dvd
theorem g16_add {x y : Int} (h : g16 x = true) (k : g16 y = true) : g16 (x + y) = true := g16_iff.2 (Int.dvd_add (g16_iff.1 h) (g16_iff.1 k))
theorem g16_sub {x y : Int} (h : g16 x = true) (k : g16 y = true) : g16 (x - y) = true := g16_iff.2 (Int.dvd_sub (g16_iff.1 h) (g16_iff.1 k))
theorem g16_two {x y : Int} (h : g16 x = true) (k : g16 y = true) : [x, y].all g16 = true := by simp [h, k]
def G16 (l : List Pr) : Prop := ∀ p ∈ l, g16 p.lo = true ∧ g16 p.hi = true
theorem G16.take {l : List Pr} (h : G16 l) (k : Nat) (n : Int) (hk : k < l.length) (hg : g16 n = true) : G16 (takeK l k n hk) := by
  intro p hp
  unfold takeK at hp
  split at hp
  · exact h p (List.mem_of_mem_eraseIdx hp)
  · rcases List.mem_or_eq_of_mem_set hp with hp | rfl
    · exact h p hp
    · have := h _ (List.getElem_mem hk)
      exact ⟨g16_add this.1 hg, this.2⟩
theorem G16.joinL {l : List Pr} (h : G16 l) (i : Nat) : G16 (joinL l i) := by
  unfold Go.Proofs.Ytkjakaoimbmcjaa.joinL
  split
  · rename_i hc
    split
    · intro p hp
      rcases List.mem_or_eq_of_mem_set (List.mem_of_mem_eraseIdx hp) with hp | rfl
      · exact h p hp
      · exact ⟨(h _ (List.getElem_mem _)).1, (h _ (List.getElem_mem _)).2⟩
    · exact h
  · exact h
theorem G16.give {l : List Pr} (h : G16 l) (k : Nat) (p : Pr) (hp : g16 p.lo = true ∧ g16 p.hi = true) : G16 (giveL l k p) := by
  unfold giveL
  refine G16.joinL (G16.joinL (fun q hq => ?_) _) _
  rcases List.mem_append.1 hq with hq | hq
  · exact h q (List.mem_of_mem_take hq)
  · rcases List.mem_cons.1 hq with rfl | hq
    · exact hp
    · exact h q (List.mem_of_mem_drop hq)

/-! ### What Take leaves -/
theorem takeF_false {fr to n : Int} {l : List Pr} (h : (takeF n l).1.2 = false) : takeF n l = ((0, false), l) := by
  by_cases hn : n < 1 ∨ g16 n = false ∨ l.findIdx? (fits n) = none
  · exact takeF_no hn
  · obtain ⟨a1, a2⟩ := not_or.1 hn
    obtain ⟨a3, a4⟩ := not_or.1 a2
    rcases Option.eq_none_or_eq_some (l.findIdx? (fits n)) with hf | ⟨k, hf⟩
    · exact absurd hf a4
    · obtain ⟨hk, _, _⟩ := List.findIdx?_eq_some_iff_getElem.1 hf
      rw [takeF_yes (by omega) (by simpa using a3) hf hk] at h
      cases h
theorem sumP_nil : sumP [] = 0 := rfl
theorem sumP_cons (p : Pr) (l : List Pr) : sumP (p :: l) = p.len + sumP l := by simp [sumP]
theorem sumP_append (l m : List Pr) : sumP (l ++ m) = sumP l + sumP m := by simp [sumP]
theorem sumP_take (l : List Pr) (k : Nat) (n : Int) (hk : k < l.length) : sumP (takeK l k n hk) = sumP l - n := by
  have hs : sumP l = sumP (l.take k) + ((l[k]).len + sumP (l.drop (k + 1))) := by
    rw [← sumP_cons, ← sumP_append, ← List.drop_eq_getElem_cons hk, List.take_append_drop]
  have hset : l.set k ⟨(l[k]).lo + n, (l[k]).hi⟩ = l.take k ++ ⟨(l[k]).lo + n, (l[k]).hi⟩ :: l.drop (k + 1) := List.set_eq_take_append_cons_drop.trans (by rw [if_pos hk])
  have her : l.eraseIdx k = l.take k ++ l.drop (k + 1) := List.eraseIdx_eq_take_drop_succ _ _
  unfold takeK
  rw [hset, her]
  split
  · rename_i e
    rw [sumP_append, hs]
    omega
  · rw [sumP_append, sumP_cons, hs]
    have e1 : Pr.len ⟨(l[k]).lo + n, (l[k]).hi⟩ = (l[k]).len - n := by unfold Pr.len; simp only; omega
    rw [e1]
    omega
theorem sumP_joinL (l : List Pr) (i : Nat) : sumP (joinL l i) = sumP l := by
  unfold joinL
  split
  · rename_i hc
    split
    · rename_i he
      obtain ⟨h1, h2⟩ := hc
      have e0 : l = l.take (i - 1) ++ l[i - 1]'(by omega) :: l[i]'h2 :: l.drop (i + 1) := by
        conv => lhs; rw [← List.take_append_drop (i - 1) l]
        rw [List.drop_eq_getElem_cons (by omega)]
        congr 2
        have : i - 1 + 1 = i := by omega
        rw [this, List.drop_eq_getElem_cons h2]
      have hlt : (l.take (i - 1)).length = i - 1 := by rw [List.length_take]; omega
      generalize hA : l.take (i - 1) = A at e0 hlt
      generalize hB : l.drop (i + 1) = B at e0
      generalize hx : l[i - 1]'(by omega) = x at e0 he ⊢
      generalize hy : l[i]'h2 = y at e0 he ⊢
      have e1 : (l.set (i - 1) ⟨x.lo, y.hi⟩).eraseIdx i = A ++ ⟨x.lo, y.hi⟩ :: B := by
        conv => lhs; rw [e0]
        rw [List.set_append_right _ _ (by omega), List.eraseIdx_append_of_length_le (by omega), hlt]
        simp only [Nat.sub_self, List.set_cons_zero]
        rw [show i - (i - 1) = 1 by omega]
        rfl
      rw [e1]
      conv => rhs; rw [e0]
      simp only [sumP_append, sumP_cons]
      unfold Pr.len
      simp only
      omega
    · rfl
  · rfl
theorem sumP_give (l : List Pr) (k : Nat) (p : Pr) : sumP (giveL l k p) = sumP l + p.len := by
  unfold giveL
  rw [sumP_joinL, sumP_joinL, sumP_append, sumP_cons]
  have : sumP l = sumP (l.take k) + sumP (l.drop k) := by rw [← sumP_append, List.take_append_drop]
  omega
theorem takeF_yesT {fr to n : Int} {l : List Pr} (hG : Good fr to l) (h6 : G16 l) (h : (takeF n l).1.2 = true) :
    1 ≤ n ∧ g16 n = true ∧ g16 (takeF n l).1.1 = true ∧ fr ≤ (takeF n l).1.1 ∧ (takeF n l).1.1 + n ≤ to ∧ (∀ y, (takeF n l).1.1 ≤ y → y < (takeF n l).1.1 + n → inL y l) ∧
      (∀ y, inL y (takeF n l).2 ↔ inL y l ∧ ¬ ((takeF n l).1.1 ≤ y ∧ y < (takeF n l).1.1 + n)) ∧ G16 (takeF n l).2 ∧ Good fr to (takeF n l).2 ∧ sumP (takeF n l).2 = sumP l - n := by
  by_cases hn : n < 1 ∨ g16 n = false ∨ l.findIdx? (fits n) = none
  · rw [takeF_no hn] at h
    cases h
  · obtain ⟨a1, a2⟩ := not_or.1 hn
    obtain ⟨a3, a4⟩ := not_or.1 a2
    have hn1 : 1 ≤ n := by omega
    have hg : g16 n = true := by simpa using a3
    rcases Option.eq_none_or_eq_some (l.findIdx? (fits n)) with hf | ⟨k, hf⟩
    · exact absurd hf a4
    · obtain ⟨hk, hfk, _⟩ := List.findIdx?_eq_some_iff_getElem.1 hf
      rw [takeF_yes hn1 hg hf hk]
      have hb := hG.2 _ (List.getElem_mem hk)
      have hlen : n ≤ (l[k]).len := of_decide_eq_true hfk
      unfold Pr.len at hlen
      refine ⟨hn1, hg, (h6 _ (List.getElem_mem hk)).1, hb.1, ?_, fun y h1 h2 => ⟨l[k], List.getElem_mem hk, h1, ?_⟩, fun y => inL_take hG k n hk hn1 hfk y, h6.take k n hk hg, hG.take k n hk hn1 hfk, sumP_take l k n hk⟩
      · show (l[k]).lo + n ≤ to; omega
      · have h2' : y < (l[k]).lo + n := h2; omega

/-! ### What Give asks, and leaves -/
theorem giveC_of {fr to at_ n : Int} {l : List Pr} (hG : Good fr to l) (h1 : g16 at_ = true) (h2 : g16 n = true) (h3 : 1 ≤ n) (h4 : fr ≤ at_) (h5 : at_ + n ≤ to) (hno : ∀ y, at_ ≤ y → y < at_ + n → ¬ inL y l) : giveC fr to at_ n l := by
  refine ⟨g16_two h1 h2, h3, h4, by omega, by omega, fun hk => ?_⟩
  have hh := (kOf_is at_ l).2.2 hk
  have hb := hG.2 _ (List.getElem_mem hk)
  generalize hp : l[kOf at_ l] = p at hh hb ⊢
  have hm : p ∈ l := by rw [← hp]; exact List.getElem_mem hk
  rcases Int.lt_or_le p.lo (at_ + n) with c | c
  · exfalso
    rcases Int.lt_or_le p.lo at_ with d | d
    · exact hno at_ (by omega) (by omega) ⟨p, hm, by unfold inP; omega⟩
    · exact hno p.lo d c ⟨p, hm, by unfold inP; omega⟩
  · exact c
theorem giveC_apart {fr to at_ n : Int} {l : List Pr} (hG : Good fr to l) (h : giveC fr to at_ n l) : ∀ y, at_ ≤ y → y < at_ + n → ¬ inL y l := by
  rintro y h1 h2 ⟨p, hp, h3⟩
  obtain ⟨j, hj, rfl⟩ := List.mem_iff_getElem.1 hp
  obtain ⟨_, c1, _, _, _, c⟩ := h
  obtain ⟨k1, k2, k3⟩ := kOf_is at_ l
  unfold inP at h3
  by_cases hjk : j < kOf at_ l
  · have := k2 j hj hjk; omega
  · have hk : kOf at_ l < l.length := by omega
    have hc := c hk
    have hlo : (l[kOf at_ l]).lo ≤ (l[j]).lo := by
      rcases Nat.eq_or_lt_of_le (Nat.le_of_not_lt hjk) with e | e
      · simp only [e]; exact Int.le_refl _
      · have h5 := (List.pairwise_iff_getElem.1 hG.1) (kOf at_ l) j hk hj e
        have h6 := (hG.2 _ (List.getElem_mem hk)).2.1
        omega
    omega
theorem giveC_good {fr to at_ n : Int} {l : List Pr} (hG : Good fr to l) (h : giveC fr to at_ n l) : Good fr to (giveL l (kOf at_ l) ⟨at_, at_ + n⟩) ∧ (∀ y, inL y (giveL l (kOf at_ l) ⟨at_, at_ + n⟩) ↔ inL y l ∨ inP y ⟨at_, at_ + n⟩) ∧ sumP (giveL l (kOf at_ l) ⟨at_, at_ + n⟩) = sumP l + n := by
  obtain ⟨k1, k2, k3⟩ := kOf_is at_ l
  obtain ⟨_, c1, c2, c3, c4, c⟩ := h
  refine ⟨hG.give _ ⟨at_, at_ + n⟩ k1 (by show fr ≤ at_ ∧ at_ < at_ + n ∧ at_ + n ≤ to; omega) k2 c, fun y => inL_give hG _ ⟨at_, at_ + n⟩ k1 (by show at_ ≤ at_ + n; omega) y, ?_⟩
  rw [sumP_give]
  unfold Pr.len
  simp only
  omega

/-! ### What is held -/
/-- What is held lies apart from what is free, and each from each. -/
structure Held (fr to : Int) (l m : List Pr) : Prop where
  ok : ∀ x ∈ m, g16 x.lo = true ∧ g16 x.hi = true ∧ fr ≤ x.lo ∧ x.lo < x.hi ∧ x.hi ≤ to
  each : m.Pairwise (fun x y => ∀ z, inP z x → ¬ inP z y)
  free : ∀ x ∈ m, ∀ z, inP z x → ¬ inL z l
theorem Held.nil (fr to : Int) (l : List Pr) : Held fr to l [] := ⟨(fun _ h => nomatch h), List.Pairwise.nil, (fun _ h => nomatch h)⟩
theorem Held.less {fr to : Int} {l l' m : List Pr} (h : Held fr to l m) (hl : ∀ z, inL z l' → inL z l) : Held fr to l' m := ⟨h.ok, h.each, fun x hx z hz hc => h.free x hx z hz (hl z hc)⟩
theorem Held.add {fr to : Int} {l l' m : List Pr} (h : Held fr to l m) {p : Pr} (hp : g16 p.lo = true ∧ g16 p.hi = true ∧ fr ≤ p.lo ∧ p.lo < p.hi ∧ p.hi ≤ to) (hin : ∀ z, inP z p → inL z l) (hl : ∀ z, inL z l' ↔ inL z l ∧ ¬ inP z p) : Held fr to l' (m ++ [p]) := by
  refine ⟨fun x hx => ?_, ?_, fun x hx z hz hc => ?_⟩
  · rcases List.mem_append.1 hx with hx | hx
    · exact h.ok x hx
    · obtain rfl : x = p := by simpa using hx
      exact hp
  · refine List.pairwise_append.2 ⟨h.each, List.pairwise_singleton _ _, fun x hx y hy z hz hc => ?_⟩
    obtain rfl : y = p := by simpa using hy
    exact h.free x hx z hz (hin z hc)
  · have := (hl z).1 hc
    rcases List.mem_append.1 hx with hx | hx
    · exact h.free x hx z hz this.1
    · obtain rfl : x = p := by simpa using hx
      exact this.2 hz

/-! ### A row of its own beside what is free -/
/-- A row of its own beside the one that is held. -/
def Apt (q : Nat) (v va : Value) : Prop := ∀ g, va.ownBlock = some g → ¬ g = q ∧ ¬ v.ownBlock = some g
theorem Apt.nil (q : Nat) (v : Value) : Apt q v (.slice none 0 0) := fun g h => by cases h
theorem Apt.not {q : Nat} {v va : Value} (h : Apt q v va) : ∀ g, va.ownBlock = some g → ¬ tch q v g := fun g hg e => by
  rcases e with e | e
  · exact (h g hg).1 e
  · exact (h g hg).2 e
def nwr (w0 : World) : Nat → Prop := fun i => w0.heap.size ≤ i
/-- All but a row may turn. -/
def nvh (vh : Value) : Nat → Prop := fun i => ¬ vh.ownBlock = some i
theorem EG.start {w0 W w' : World} {q base : Nat} {fr to : Int} {v : Value} {l : List Pr} (h : EG W w' q base fr to v l) (hx : Ext w0 W) (h0 : w0.heap.size ≤ base) : EG w0 w' q base fr to v l := ⟨⟨h.1.1, hx.trans h.1.2.1, h0⟩, h.2⟩
theorem EG.qge {w0 W : World} {q base : Nat} {fr to : Int} {v : Value} {l : List Pr} (h : EG w0 W q base fr to v l) : base ≤ q ∧ ∀ g, v.ownBlock = some g → base ≤ g := ⟨h.1.1.2.2.2.2.1, fun g hg => (h.1.1.2.2.2.1.lt g hg).1⟩
theorem g16_ends {fr to : Int} (h0 : g16 fr = true) (h1 : g16 to = true) : G16 [Pr.mk fr to] := fun p hp => by
  obtain rfl : p = Pr.mk fr to := by simpa using hp
  exact ⟨h0, h1⟩
theorem yNew (fr to : Int) (w : World) (h0 : 0 ≤ fr) (h1 : fr < to) (h2 : to ≤ 16777216) (g0 : g16 fr = true) (g1 : g16 to = true) : Calls Try.prog 9 #[.int .i64 fr, .int .i64 to] w fun e w' => ∃ q v, e = .returned (.pointer (some ⟨q, 0, none⟩)) ∧ Hid (EG w w' q w.heap.size fr to v [Pr.mk fr to]) := by
  refine (enew_ fr to w (g16_two g0 g1) h0 h1 h2).mono ?_
  rintro e w' ⟨q, v, rfl, _, hx, hF⟩
  exact ⟨q, v, rfl, hid ⟨⟨hF, hx, Nat.le_refl _⟩, Good.one h1, h0, h2⟩⟩
theorem EG.side {S : Nat → Prop} {w0 W w' : World} {q base : Nat} {fr to : Int} {v : Value} {l : List Pr} (h : EG w0 W q base fr to v l) (x : Only S W w') (h1 : ¬ S q) (h2 : ∀ g, v.ownBlock = some g → ¬ S g) (hE : Ext w0 w') : EG w0 w' q base fr to v l :=
  ⟨⟨h.1.1.only x h1 h2, hE, h.1.2.2⟩, h.2⟩
theorem EG.qlt {w0 W : World} {q base : Nat} {fr to : Int} {v : Value} {l : List Pr} (h : EG w0 W q base fr to v l) : q < W.heap.size := h.1.1.1
theorem EG.own {w0 W : World} {q base : Nat} {fr to : Int} {v : Value} {l : List Pr} (h : EG w0 W q base fr to v l) : ∀ g, v.ownBlock = some g → w0.heap.size ≤ g ∧ g < W.heap.size := fun g hg => ⟨Nat.le_trans h.1.2.2 (h.1.1.2.2.2.1.lt g hg).1, (h.1.1.2.2.2.1.lt g hg).2⟩
theorem EG.okl {w0 W : World} {q base : Nat} {fr to : Int} {v : Value} {l : List Pr} (h : EG w0 W q base fr to v l) : okF l ∧ l.length ≤ 10000000 ∧ Good fr to l := ⟨h.2.1.okF h.2.2.1 h.2.2.2, h.2.1.len h.2.2.1 h.2.2.2, h.2.1⟩
/-- What is free, and a row of runs that are held. -/
structure FH (w0 W : World) (q base : Nat) (fr to : Int) (v : Value) (l : List Pr) (bh : Nat) (vh : Value) (m : List Pr) : Prop where
  hf : EG w0 W q base fr to v l
  hh : ownsAt W bh 38 2 vh m.length (prList m)
  ap : Apt q v vh
  bb : w0.heap.size ≤ bh
  bs : bh ≤ W.heap.size
section
variable {w0 W w' : World} {q base : Nat} {fr to : Int} {v v' : Value} {l l' : List Pr} {bh : Nat} {vh vh' : Value} {m m' : List Pr}
theorem FH.ex (h : FH w0 W q base fr to v l bh vh m) : Ext w0 W := h.hf.1.2.1
theorem FH.ext (h : FH w0 W q base fr to v l bh vh m) (x : Ext W w') : FH w0 w' q base fr to v l bh vh m := ⟨h.hf.ext x, h.hh.ext x, h.ap, h.bb, Nat.le_trans h.bs x.size⟩
theorem FH.upd (h : FH w0 W q base fr to v l bh vh m) (hf' : EG w0 w' q base fr to v' l') (x : Only (tch q v) W w') (hv : ∀ g, v'.ownBlock = some g → v.ownBlock = some g ∨ W.heap.size ≤ g) : FH w0 w' q base fr to v' l' bh vh m :=
  ⟨hf', h.hh.only x h.ap.not, fun g hg => ⟨(h.ap g hg).1, fun e => by
    rcases hv g e with e | e
    · exact (h.ap g hg).2 e
    · have := (h.hh.lt g hg).2; omega⟩, h.bb, Nat.le_trans h.bs x.size⟩
theorem FH.app (h : FH w0 W q base fr to v l bh vh m) (ho : ownsAt w' bh 38 2 vh' m'.length (prList m')) (hg : W.grownBy w' vh.ownBlock) (hat : vh'.ownBlock = vh.ownBlock ∨ ∃ g, vh'.ownBlock = some g ∧ W.heap.size ≤ g) : FH w0 w' q base fr to v l bh vh' m' := by
  have hO : Only (fun i => vh.ownBlock = some i) W w' := grownOnly (S := fun i => vh.ownBlock = some i) hg fun g e => e
  have hE : Ext w0 w' := Ext.only h.ex hO (fun i hi => Nat.le_trans h.bb (h.hh.lt i hi).1)
  refine ⟨h.hf.side hO (fun e => (h.ap q e).1 rfl) (fun g e c => (h.ap g c).2 e) hE, ho, fun g e => ?_, h.bb, Nat.le_trans h.bs hO.size⟩
  rcases hat with c | ⟨g', c, hl⟩
  · exact h.ap g (c ▸ e)
  · rw [e] at c
    obtain rfl : g = g' := by simpa using c
    exact ⟨by have := h.hf.qlt; omega, fun e2 => by have := (h.hf.own g e2).2; omega⟩
theorem FH.nv (h : FH w0 W q base fr to v l bh vh m) (x : Only (tch q v) W w') : Only (nvh vh) W w' := x.mono fun i hi e => h.ap.not i e hi
theorem FH.new (h : EG w0 W q base fr to v l) : FH w0 W q base fr to v l W.heap.size (.slice none 0 0) [] := ⟨h, ownsAt_nil _ _ _ _, Apt.nil _ _, h.1.2.1.size, Nat.le_refl _⟩
theorem FH.nw (h : FH w0 W q base fr to v l bh vh m) (x : Only (tch q v) W w') : Only (nwr w0) W w' := h.hf.nw x
end
/-- Two, and a row of runs that are held. -/
structure FG (w0 W : World) (q base : Nat) (fr to : Int) (v : Value) (l : List Pr) (r rb : Nat) (vr : Value) (lr : List Pr) (bh : Nat) (vh : Value) (m : List Pr) : Prop where
  f : FH w0 W q base fr to v l bh vh m
  g : FH w0 W r rb fr to vr lr bh vh m
  ne : ¬ q = r
  vq : ¬ v.ownBlock = some r
  rv : ¬ vr.ownBlock = some q
  vv : ∀ g, v.ownBlock = some g → ¬ vr.ownBlock = some g
section
variable {w0 W w' : World} {q base : Nat} {fr to : Int} {v v' : Value} {l l' : List Pr} {r rb : Nat} {vr vr' : Value} {lr lr' : List Pr} {bh : Nat} {vh vh' : Value} {m m' : List Pr}
theorem FG.new {W1 : World} (hf : EG w0 W1 q base fr to v l) (hg : EG W1 W r W1.heap.size fr to vr lr) : FG w0 W q base fr to v l r W1.heap.size vr lr W.heap.size (.slice none 0 0) [] := by
  have hx := hg.1.2.1
  refine ⟨FH.new (hf.ext hx), FH.new (hg.start hf.1.2.1 hf.1.2.1.size), ?_, ?_, ?_, ?_⟩
  · have := hf.qlt; have := hg.qge.1; omega
  · intro e; have := (hf.own r e).2; have := hg.qge.1; omega
  · intro e; have := hf.qlt; have := hg.qge.2 q e; omega
  · intro g e c; have := (hf.own g e).2; have := hg.qge.2 g c; omega
theorem FG.ex (h : FG w0 W q base fr to v l r rb vr lr bh vh m) : Ext w0 W := h.f.ex
theorem FG.swap (h : FG w0 W q base fr to v l r rb vr lr bh vh m) : FG w0 W r rb fr to vr lr q base v l bh vh m := ⟨h.g, h.f, fun e => h.ne e.symm, h.rv, h.vq, fun g e c => h.vv g c e⟩
theorem FG.ext (h : FG w0 W q base fr to v l r rb vr lr bh vh m) (x : Ext W w') : FG w0 w' q base fr to v l r rb vr lr bh vh m := ⟨h.f.ext x, h.g.ext x, h.ne, h.vq, h.rv, h.vv⟩
theorem FG.updF (h : FG w0 W q base fr to v l r rb vr lr bh vh m) (hf' : EG w0 w' q base fr to v' l') (x : Only (tch q v) W w') (hv : ∀ g, v'.ownBlock = some g → v.ownBlock = some g ∨ W.heap.size ≤ g) : FG w0 w' q base fr to v' l' r rb vr lr bh vh m := by
  have f' := h.f.upd hf' x hv
  refine ⟨f', ⟨h.g.hf.side x ?_ ?_ f'.ex, f'.hh, h.g.ap, h.g.bb, f'.bs⟩, h.ne, fun e => ?_, h.rv, fun g e c => ?_⟩
  · rintro (e | e)
    · exact h.ne e.symm
    · exact h.vq e
  · rintro g e (c | c)
    · exact h.rv (c ▸ e)
    · exact h.vv g c e
  · rcases hv r e with e | e
    · exact h.vq e
    · have := h.g.hf.qlt; omega
  · rcases hv g e with e | e
    · exact h.vv g e c
    · have := (h.g.hf.own g c).2; omega
theorem FG.app (h : FG w0 W q base fr to v l r rb vr lr bh vh m) (ho : ownsAt w' bh 38 2 vh' m'.length (prList m')) (hg : W.grownBy w' vh.ownBlock) (hat : vh'.ownBlock = vh.ownBlock ∨ ∃ g, vh'.ownBlock = some g ∧ W.heap.size ≤ g) : FG w0 w' q base fr to v l r rb vr lr bh vh' m' :=
  ⟨h.f.app ho hg hat, h.g.app ho hg hat, h.ne, h.vq, h.rv, h.vv⟩
end
theorem hTake (w0 : World) (q base : Nat) (fr to : Int) (v : Value) (l : List Pr) (bh : Nat) (vh : Value) (m : List Pr) (W : World) (h : FH w0 W q base fr to v l bh vh m) (n xa : Int) (xb : Bool) (l2 : List Pr) (ht : takeF n l = ((xa, xb), l2)) : Calls Try.prog 11 #[.pointer (some ⟨q, 0, none⟩), .int .i64 n] W fun e w' => ∃ v', e = .returned (.tuple #[.int .i64 xa, .bool xb]) ∧ Hid (FH w0 w' q base fr to v' l2 bh vh m) ∧ Hid (Only (nvh vh) W w') := by
  have hT := oTake w0 q base fr to v l W h.hf n
  rw [ht] at hT
  refine hT.mono ?_
--  refine (oTake w0 q base fr to v l W h.hf n).mono ?_
  rintro e w' ⟨v', rfl, hf', ho, hv⟩
  exact ⟨v', rfl, hid (h.upd hf'.out ho.out hv.out), hid (h.nv ho.out)⟩
theorem hGive (w0 : World) (q base : Nat) (fr to : Int) (v : Value) (l : List Pr) (bh : Nat) (vh : Value) (m : List Pr) (W : World) (h : FH w0 W q base fr to v l bh vh m) (at_ n : Int) (hc : giveC fr to at_ n l) : Calls Try.prog 13 #[.pointer (some ⟨q, 0, none⟩), .int .i64 at_, .int .i64 n] W fun e w' => ∃ v', e = .returned (.bool true) ∧ Hid (FH w0 w' q base fr to v' (giveL l (kOf at_ l) ⟨at_, at_ + n⟩) bh vh m) ∧ Hid (Only (nvh vh) W w') := by
  refine (oGive w0 q base fr to v l W h.hf at_ n hc).mono ?_
  rintro e w' ⟨v', rfl, hf', ho, hv⟩
  exact ⟨v', rfl, hid (h.upd hf'.out ho.out hv.out), hid (h.nv ho.out)⟩
theorem hGiveNo (w0 : World) (q base : Nat) (fr to : Int) (v : Value) (l : List Pr) (bh : Nat) (vh : Value) (m : List Pr) (W : World) (h : FH w0 W q base fr to v l bh vh m) (at_ n : Int) (hc : ¬ giveC fr to at_ n l) : Calls Try.prog 13 #[.pointer (some ⟨q, 0, none⟩), .int .i64 at_, .int .i64 n] W fun e w' => ∃ v', e = .returned (.bool false) ∧ Hid (FH w0 w' q base fr to v' l bh vh m) ∧ Hid (Only (nvh vh) W w') := by
  refine (oGiveNo w0 q base fr to v l W h.hf at_ n hc).mono ?_
  rintro e w' ⟨v', rfl, hf', ho, hv⟩
  exact ⟨v', rfl, hid (h.upd hf'.out ho.out hv.out), hid (h.nv ho.out)⟩
theorem hAll (w0 : World) (q base : Nat) (fr to : Int) (v : Value) (l : List Pr) (bh : Nat) (vh : Value) (m : List Pr) (W : World) (h : FH w0 W q base fr to v l bh vh m) : Calls Try.prog 15 #[.pointer (some ⟨q, 0, none⟩)] W fun e w' => e = .returned (.int .i64 (sumP l)) ∧ Hid (FH w0 w' q base fr to v l bh vh m) ∧ Hid (Ext W w') := by
  refine (xAll w0 q base fr to v l W h.hf.1 h.hf.okl.1 h.hf.okl.2.1).mono ?_
  rintro e w' ⟨rfl, _, hx⟩
  exact ⟨rfl, hid (h.ext hx.out), hx⟩
theorem hMost (w0 : World) (q base : Nat) (fr to : Int) (v : Value) (l : List Pr) (bh : Nat) (vh : Value) (m : List Pr) (W : World) (h : FH w0 W q base fr to v l bh vh m) : Calls Try.prog 17 #[.pointer (some ⟨q, 0, none⟩)] W fun e w' => e = .returned (.int .i64 (mostP l)) ∧ Hid (FH w0 w' q base fr to v l bh vh m) ∧ Hid (Ext W w') := by
  refine (xMost w0 q base fr to v l W h.hf.1 h.hf.okl.1 h.hf.okl.2.1).mono ?_
  rintro e w' ⟨rfl, _, hx⟩
  exact ⟨rfl, hid (h.ext hx.out), hx⟩
theorem hRuns (w0 : World) (q base : Nat) (fr to : Int) (v : Value) (l : List Pr) (bh : Nat) (vh : Value) (m : List Pr) (W : World) (h : FH w0 W q base fr to v l bh vh m) (hl : l.length ≤ 1000000) : Calls Try.prog 20 #[.pointer (some ⟨q, 0, none⟩)] W fun e w' => ∃ A ca, e = .returned (.slice A l.length ca) ∧ Hid (RdP w' A l) ∧ Hid (FH w0 w' q base fr to v l bh vh m) ∧ Hid (Ext W w') ∧ Hid (∀ b o, A = some ⟨b, o, none⟩ → W.heap.size ≤ b) := by
  refine (xRuns w0 q base fr to v l W h.hf.1 hl).mono ?_
  rintro e w' ⟨A, ca, rfl, hr, _, hx, hb⟩
  exact ⟨A, ca, rfl, hr, hid (h.ext hx.out), hx, hb⟩
theorem fTake (w0 : World) (q base : Nat) (fr to : Int) (v : Value) (l : List Pr) (r rb : Nat) (vr : Value) (lr : List Pr) (bh : Nat) (vh : Value) (m : List Pr) (W : World) (h : FG w0 W q base fr to v l r rb vr lr bh vh m) (n xa : Int) (xb : Bool) (l2 : List Pr) (ht : takeF n l = ((xa, xb), l2)) : Calls Try.prog 11 #[.pointer (some ⟨q, 0, none⟩), .int .i64 n] W fun e w' => ∃ v', e = .returned (.tuple #[.int .i64 xa, .bool xb]) ∧ Hid (FG w0 w' q base fr to v' l2 r rb vr lr bh vh m) ∧ Hid (Only (nvh vh) W w') := by
  have hT := oTake w0 q base fr to v l W h.f.hf n
  rw [ht] at hT
  refine hT.mono ?_
--  refine (oTake w0 q base fr to v l W h.f.hf n).mono ?_
  rintro e w' ⟨v', rfl, hf', ho, hv⟩
  exact ⟨v', rfl, hid (h.updF hf'.out ho.out hv.out), hid (h.f.nv ho.out)⟩
theorem fGive (w0 : World) (q base : Nat) (fr to : Int) (v : Value) (l : List Pr) (r rb : Nat) (vr : Value) (lr : List Pr) (bh : Nat) (vh : Value) (m : List Pr) (W : World) (h : FG w0 W q base fr to v l r rb vr lr bh vh m) (at_ n : Int) (hc : giveC fr to at_ n l) : Calls Try.prog 13 #[.pointer (some ⟨q, 0, none⟩), .int .i64 at_, .int .i64 n] W fun e w' => ∃ v', e = .returned (.bool true) ∧ Hid (FG w0 w' q base fr to v' (giveL l (kOf at_ l) ⟨at_, at_ + n⟩) r rb vr lr bh vh m) ∧ Hid (Only (nvh vh) W w') := by
  refine (oGive w0 q base fr to v l W h.f.hf at_ n hc).mono ?_
  rintro e w' ⟨v', rfl, hf', ho, hv⟩
  exact ⟨v', rfl, hid (h.updF hf'.out ho.out hv.out), hid (h.f.nv ho.out)⟩
theorem fGiveNo (w0 : World) (q base : Nat) (fr to : Int) (v : Value) (l : List Pr) (r rb : Nat) (vr : Value) (lr : List Pr) (bh : Nat) (vh : Value) (m : List Pr) (W : World) (h : FG w0 W q base fr to v l r rb vr lr bh vh m) (at_ n : Int) (hc : ¬ giveC fr to at_ n l) : Calls Try.prog 13 #[.pointer (some ⟨q, 0, none⟩), .int .i64 at_, .int .i64 n] W fun e w' => ∃ v', e = .returned (.bool false) ∧ Hid (FG w0 w' q base fr to v' l r rb vr lr bh vh m) ∧ Hid (Only (nvh vh) W w') := by
  refine (oGiveNo w0 q base fr to v l W h.f.hf at_ n hc).mono ?_
  rintro e w' ⟨v', rfl, hf', ho, hv⟩
  exact ⟨v', rfl, hid (h.updF hf'.out ho.out hv.out), hid (h.f.nv ho.out)⟩
theorem fAll (w0 : World) (q base : Nat) (fr to : Int) (v : Value) (l : List Pr) (r rb : Nat) (vr : Value) (lr : List Pr) (bh : Nat) (vh : Value) (m : List Pr) (W : World) (h : FG w0 W q base fr to v l r rb vr lr bh vh m) : Calls Try.prog 15 #[.pointer (some ⟨q, 0, none⟩)] W fun e w' => e = .returned (.int .i64 (sumP l)) ∧ Hid (FG w0 w' q base fr to v l r rb vr lr bh vh m) ∧ Hid (Ext W w') := by
  refine (xAll w0 q base fr to v l W h.f.hf.1 h.f.hf.okl.1 h.f.hf.okl.2.1).mono ?_
  rintro e w' ⟨rfl, _, hx⟩
  exact ⟨rfl, hid (h.ext hx.out), hx⟩
theorem fMost (w0 : World) (q base : Nat) (fr to : Int) (v : Value) (l : List Pr) (r rb : Nat) (vr : Value) (lr : List Pr) (bh : Nat) (vh : Value) (m : List Pr) (W : World) (h : FG w0 W q base fr to v l r rb vr lr bh vh m) : Calls Try.prog 17 #[.pointer (some ⟨q, 0, none⟩)] W fun e w' => e = .returned (.int .i64 (mostP l)) ∧ Hid (FG w0 w' q base fr to v l r rb vr lr bh vh m) ∧ Hid (Ext W w') := by
  refine (xMost w0 q base fr to v l W h.f.hf.1 h.f.hf.okl.1 h.f.hf.okl.2.1).mono ?_
  rintro e w' ⟨rfl, _, hx⟩
  exact ⟨rfl, hid (h.ext hx.out), hx⟩
theorem fRuns (w0 : World) (q base : Nat) (fr to : Int) (v : Value) (l : List Pr) (r rb : Nat) (vr : Value) (lr : List Pr) (bh : Nat) (vh : Value) (m : List Pr) (W : World) (h : FG w0 W q base fr to v l r rb vr lr bh vh m) (hl : l.length ≤ 1000000) : Calls Try.prog 20 #[.pointer (some ⟨q, 0, none⟩)] W fun e w' => ∃ A ca, e = .returned (.slice A l.length ca) ∧ Hid (RdP w' A l) ∧ Hid (FG w0 w' q base fr to v l r rb vr lr bh vh m) ∧ Hid (Ext W w') ∧ Hid (∀ b o, A = some ⟨b, o, none⟩ → W.heap.size ≤ b) := by
  refine (xRuns w0 q base fr to v l W h.f.hf.1 hl).mono ?_
  rintro e w' ⟨A, ca, rfl, hr, _, hx, hb⟩
  exact ⟨A, ca, rfl, hr, hid (h.ext hx.out), hx, hb⟩
theorem ggTake (w0 : World) (q base : Nat) (fr to : Int) (v : Value) (l : List Pr) (r rb : Nat) (vr : Value) (lr : List Pr) (bh : Nat) (vh : Value) (m : List Pr) (W : World) (h : FG w0 W q base fr to v l r rb vr lr bh vh m) (n xa : Int) (xb : Bool) (l2 : List Pr) (ht : takeF n lr = ((xa, xb), l2)) : Calls Try.prog 11 #[.pointer (some ⟨r, 0, none⟩), .int .i64 n] W fun e w' => ∃ v', e = .returned (.tuple #[.int .i64 xa, .bool xb]) ∧ Hid (FG w0 w' q base fr to v l r rb v' l2 bh vh m) ∧ Hid (Only (nvh vh) W w') := by
  have hT := oTake w0 r rb fr to vr lr W h.g.hf n
  rw [ht] at hT
  refine hT.mono ?_
--  refine (oTake w0 r rb fr to vr lr W h.g.hf n).mono ?_
  rintro e w' ⟨v', rfl, hf', ho, hv⟩
  exact ⟨v', rfl, hid ((h.swap.updF hf'.out ho.out hv.out).swap), hid (h.g.nv ho.out)⟩
theorem ggGive (w0 : World) (q base : Nat) (fr to : Int) (v : Value) (l : List Pr) (r rb : Nat) (vr : Value) (lr : List Pr) (bh : Nat) (vh : Value) (m : List Pr) (W : World) (h : FG w0 W q base fr to v l r rb vr lr bh vh m) (at_ n : Int) (hc : giveC fr to at_ n lr) : Calls Try.prog 13 #[.pointer (some ⟨r, 0, none⟩), .int .i64 at_, .int .i64 n] W fun e w' => ∃ v', e = .returned (.bool true) ∧ Hid (FG w0 w' q base fr to v l r rb v' (giveL lr (kOf at_ lr) ⟨at_, at_ + n⟩) bh vh m) ∧ Hid (Only (nvh vh) W w') := by
  refine (oGive w0 r rb fr to vr lr W h.g.hf at_ n hc).mono ?_
  rintro e w' ⟨v', rfl, hf', ho, hv⟩
  exact ⟨v', rfl, hid ((h.swap.updF hf'.out ho.out hv.out).swap), hid (h.g.nv ho.out)⟩
theorem ggGiveNo (w0 : World) (q base : Nat) (fr to : Int) (v : Value) (l : List Pr) (r rb : Nat) (vr : Value) (lr : List Pr) (bh : Nat) (vh : Value) (m : List Pr) (W : World) (h : FG w0 W q base fr to v l r rb vr lr bh vh m) (at_ n : Int) (hc : ¬ giveC fr to at_ n lr) : Calls Try.prog 13 #[.pointer (some ⟨r, 0, none⟩), .int .i64 at_, .int .i64 n] W fun e w' => ∃ v', e = .returned (.bool false) ∧ Hid (FG w0 w' q base fr to v l r rb v' lr bh vh m) ∧ Hid (Only (nvh vh) W w') := by
  refine (oGiveNo w0 r rb fr to vr lr W h.g.hf at_ n hc).mono ?_
  rintro e w' ⟨v', rfl, hf', ho, hv⟩
  exact ⟨v', rfl, hid ((h.swap.updF hf'.out ho.out hv.out).swap), hid (h.g.nv ho.out)⟩
theorem ggAll (w0 : World) (q base : Nat) (fr to : Int) (v : Value) (l : List Pr) (r rb : Nat) (vr : Value) (lr : List Pr) (bh : Nat) (vh : Value) (m : List Pr) (W : World) (h : FG w0 W q base fr to v l r rb vr lr bh vh m) : Calls Try.prog 15 #[.pointer (some ⟨r, 0, none⟩)] W fun e w' => e = .returned (.int .i64 (sumP lr)) ∧ Hid (FG w0 w' q base fr to v l r rb vr lr bh vh m) ∧ Hid (Ext W w') := by
  refine (xAll w0 r rb fr to vr lr W h.g.hf.1 h.g.hf.okl.1 h.g.hf.okl.2.1).mono ?_
  rintro e w' ⟨rfl, _, hx⟩
  exact ⟨rfl, hid (h.ext hx.out), hx⟩
theorem ggMost (w0 : World) (q base : Nat) (fr to : Int) (v : Value) (l : List Pr) (r rb : Nat) (vr : Value) (lr : List Pr) (bh : Nat) (vh : Value) (m : List Pr) (W : World) (h : FG w0 W q base fr to v l r rb vr lr bh vh m) : Calls Try.prog 17 #[.pointer (some ⟨r, 0, none⟩)] W fun e w' => e = .returned (.int .i64 (mostP lr)) ∧ Hid (FG w0 w' q base fr to v l r rb vr lr bh vh m) ∧ Hid (Ext W w') := by
  refine (xMost w0 r rb fr to vr lr W h.g.hf.1 h.g.hf.okl.1 h.g.hf.okl.2.1).mono ?_
  rintro e w' ⟨rfl, _, hx⟩
  exact ⟨rfl, hid (h.ext hx.out), hx⟩
theorem ggRuns (w0 : World) (q base : Nat) (fr to : Int) (v : Value) (l : List Pr) (r rb : Nat) (vr : Value) (lr : List Pr) (bh : Nat) (vh : Value) (m : List Pr) (W : World) (h : FG w0 W q base fr to v l r rb vr lr bh vh m) (hl : lr.length ≤ 1000000) : Calls Try.prog 20 #[.pointer (some ⟨r, 0, none⟩)] W fun e w' => ∃ A ca, e = .returned (.slice A lr.length ca) ∧ Hid (RdP w' A lr) ∧ Hid (FG w0 w' q base fr to v l r rb vr lr bh vh m) ∧ Hid (Ext W w') ∧ Hid (∀ b o, A = some ⟨b, o, none⟩ → W.heap.size ≤ b) := by
  refine (xRuns w0 r rb fr to vr lr W h.g.hf.1 hl).mono ?_
  rintro e w' ⟨A, ca, rfl, hr, _, hx, hb⟩
  exact ⟨A, ca, rfl, hr, hid (h.ext hx.out), hx, hb⟩

end Go.Proofs.Ytkjakaoimbmcjaa
