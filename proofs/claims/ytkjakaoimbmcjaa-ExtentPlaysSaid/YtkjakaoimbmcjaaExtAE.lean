/- Layer 12: one and the document's, side by side. -/
import Derived.Test.YtkjakaoimbmcjaaExtAC
import Derived.Test.YtkjakaoimbmcjaaExtAD
namespace Go.Proofs.Ytkjakaoimbmcjaa
set_option linter.unusedSimpArgs false
set_option linter.unusedVariables false
open Go.RowKit

theorem least {Q : Nat → Bool} : ∀ m : Nat, (∃ i, i < m ∧ Q i = true) → ∃ i0, i0 < m ∧ Q i0 = true ∧ ∀ i, i < i0 → Q i = false
  | 0, ⟨i, h, _⟩ => absurd h (Nat.not_lt_zero i)
  | m + 1, ⟨i, h, hq⟩ => by
    by_cases c : ∃ i, i < m ∧ Q i = true
    · obtain ⟨i0, h1, h2, h3⟩ := least m c
      exact ⟨i0, by omega, h2, h3⟩
    · have hi : i = m := by
        rcases Nat.lt_succ_iff_lt_or_eq.1 h with d | d
        · exact absurd ⟨i, d, hq⟩ c
        · exact d
      subst hi
      refine ⟨i, by omega, hq, fun j hj => ?_⟩
      cases e : Q j with
      | false => rfl
      | true => exact absurd ⟨j, hj, e⟩ c
theorem g16_mult {x fr : Int} (h : g16 x = true) (h2 : g16 fr = true) (hx : fr ≤ x) : x = fr + 16 * (((x - fr) / 16).toNat : Int) := by
  have a := g16_iff.1 h
  have b := g16_iff.1 h2
  omega
theorem g16_mult0 {x : Int} (h : g16 x = true) (hx : 0 ≤ x) : x = 16 * ((x / 16).toNat : Int) := by
  have a := g16_iff.1 h
  omega
theorem not16 {x : Int} (h : g16 x = true) : (x.tmod 16 != 0) = false := by
  have : x.tmod 16 = 0 := of_decide_eq_true h
  simp [this]
theorem is16 {x : Int} (h : g16 x = false) : (x.tmod 16 != 0) = true := by
  have : ¬ x.tmod 16 = 0 := of_decide_eq_false h
  simp [this]
/-- One, and the document's. -/
structure EP (w0 W : World) (f base : Nat) (fr to : Int) (v : Value) (l : List Pr) (p q n : Nat) (P : Nat → Bool) : Prop where
  e : EG w0 W f base fr to v l
  r : Rx W p q n fr P
  hto : to = fr + 16 * (n : Int)
  fp : ¬ f = p
  fq : ¬ f = q
  vp : ¬ v.ownBlock = some p
  vq : ¬ v.ownBlock = some q
  bp : w0.heap.size ≤ p
  bq : w0.heap.size ≤ q
section
variable {w0 W w' : World} {f base : Nat} {fr to : Int} {v v' : Value} {l l' : List Pr} {p q n : Nat} {P P' : Nat → Bool}
theorem EP.ex (h : EP w0 W f base fr to v l p q n P) : Ext w0 W := h.e.1.2.1
theorem EP.ext (h : EP w0 W f base fr to v l p q n P) (x : Ext W w') : EP w0 w' f base fr to v l p q n P := ⟨h.e.ext x, h.r.ext x, h.hto, h.fp, h.fq, h.vp, h.vq, h.bp, h.bq⟩
theorem EP.updF (h : EP w0 W f base fr to v l p q n P) (e' : EG w0 w' f base fr to v' l') (x : Only (tch f v) W w') (hv : ∀ g, v'.ownBlock = some g → v.ownBlock = some g ∨ W.heap.size ≤ g) : EP w0 w' f base fr to v' l' p q n P :=
  ⟨e', h.r.only x (by rintro (e | e); exact h.fp e.symm; exact h.vp e) (by rintro (e | e); exact h.fq e.symm; exact h.vq e), h.hto, h.fp, h.fq,
    (fun e => by rcases hv p e with c | c; exact h.vp c; have := h.r.ltp; omega), (fun e => by rcases hv q e with c | c; exact h.vq c; have := h.r.ltq; omega), h.bp, h.bq⟩
theorem EP.updR (h : EP w0 W f base fr to v l p q n P) (r' : Rx w' p q n fr P') (x : Only (· = q) W w') : EP w0 w' f base fr to v l p q n P' :=
  ⟨h.e.side x h.fq (fun g hg e => h.vq (e ▸ hg)) (Ext.only h.ex x (by rintro i rfl; exact h.bq)), r', h.hto, h.fp, h.fq, h.vp, h.vq, h.bp, h.bq⟩
theorem EP.nwF (h : EP w0 W f base fr to v l p q n P) (x : Only (tch f v) W w') : Only (nwr w0) W w' := h.e.nw x
theorem EP.nwR (h : EP w0 W f base fr to v l p q n P) (x : Only (· = q) W w') : Only (nwr w0) W w' := x.mono (by rintro i rfl; exact h.bq)
end
theorem Good.ends {fr to : Int} {l : List Pr} (h : Good fr to l) {n : Nat} (ht : to = fr + 16 * (n : Int)) : Good fr (fr + 16 * (n : Int)) l := by rw [← ht]; exact h
theorem plTake (w0 : World) (f base : Nat) (fr to : Int) (v : Value) (l : List Pr) (p q n : Nat) (P : Nat → Bool) (W : World) (h : EP w0 W f base fr to v l p q n P) (N xa : Int) (xb : Bool) (l2 : List Pr) (ht : takeF N l = ((xa, xb), l2)) : Calls Try.prog 11 #[.pointer (some ⟨f, 0, none⟩), .int .i64 N] W fun e w' => ∃ v', e = .returned (.tuple #[.int .i64 xa, .bool xb]) ∧ Hid (EP w0 w' f base fr to v' l2 p q n P) ∧ Hid (Only (nwr w0) W w') := by
  have hT := oTake w0 f base fr to v l W h.e N
  rw [ht] at hT
  refine hT.mono ?_
  rintro e w' ⟨v', rfl, e', ho, hv⟩
  exact ⟨v', rfl, hid (h.updF e'.out ho.out hv.out), hid (h.nwF ho.out)⟩
theorem plGive (w0 : World) (f base : Nat) (fr to : Int) (v : Value) (l : List Pr) (p q n : Nat) (P : Nat → Bool) (W : World) (h : EP w0 W f base fr to v l p q n P) (at_ N : Int) (hc : giveC fr to at_ N l) : Calls Try.prog 13 #[.pointer (some ⟨f, 0, none⟩), .int .i64 at_, .int .i64 N] W fun e w' => ∃ v', e = .returned (.bool true) ∧ Hid (EP w0 w' f base fr to v' (giveL l (kOf at_ l) ⟨at_, at_ + N⟩) p q n P) ∧ Hid (Only (nwr w0) W w') := by
  refine (oGive w0 f base fr to v l W h.e at_ N hc).mono ?_
  rintro e w' ⟨v', rfl, e', ho, hv⟩
  exact ⟨v', rfl, hid (h.updF e'.out ho.out hv.out), hid (h.nwF ho.out)⟩
theorem plGiveNo (w0 : World) (f base : Nat) (fr to : Int) (v : Value) (l : List Pr) (p q n : Nat) (P : Nat → Bool) (W : World) (h : EP w0 W f base fr to v l p q n P) (at_ N : Int) (hc : ¬ giveC fr to at_ N l) : Calls Try.prog 13 #[.pointer (some ⟨f, 0, none⟩), .int .i64 at_, .int .i64 N] W fun e w' => ∃ v', e = .returned (.bool false) ∧ Hid (EP w0 w' f base fr to v' l p q n P) ∧ Hid (Only (nwr w0) W w') := by
  refine (oGiveNo w0 f base fr to v l W h.e at_ N hc).mono ?_
  rintro e w' ⟨v', rfl, e', ho, hv⟩
  exact ⟨v', rfl, hid (h.updF e'.out ho.out hv.out), hid (h.nwF ho.out)⟩
theorem plAll (w0 : World) (f base : Nat) (fr to : Int) (v : Value) (l : List Pr) (p q n : Nat) (P : Nat → Bool) (W : World) (h : EP w0 W f base fr to v l p q n P) : Calls Try.prog 15 #[.pointer (some ⟨f, 0, none⟩)] W fun e w' => e = .returned (.int .i64 (sumP l)) ∧ Hid (EP w0 w' f base fr to v l p q n P) := by
  refine (xAll w0 f base fr to v l W h.e.1 h.e.okl.1 h.e.okl.2.1).mono ?_
  rintro e w' ⟨rfl, _, hx⟩
  exact ⟨rfl, hid (h.ext hx.out)⟩
theorem plMost (w0 : World) (f base : Nat) (fr to : Int) (v : Value) (l : List Pr) (p q n : Nat) (P : Nat → Bool) (W : World) (h : EP w0 W f base fr to v l p q n P) : Calls Try.prog 17 #[.pointer (some ⟨f, 0, none⟩)] W fun e w' => e = .returned (.int .i64 (mostP l)) ∧ Hid (EP w0 w' f base fr to v l p q n P) := by
  refine (xMost w0 f base fr to v l W h.e.1 h.e.okl.1 h.e.okl.2.1).mono ?_
  rintro e w' ⟨rfl, _, hx⟩
  exact ⟨rfl, hid (h.ext hx.out)⟩
theorem plRuns (w0 : World) (f base : Nat) (fr to : Int) (v : Value) (l : List Pr) (p q n : Nat) (P : Nat → Bool) (W : World) (h : EP w0 W f base fr to v l p q n P) (hl : l.length ≤ 1000000) : Calls Try.prog 20 #[.pointer (some ⟨f, 0, none⟩)] W fun e w' => ∃ A ca, e = .returned (.slice A l.length ca) ∧ Hid (RdP w' A l) ∧ Hid (EP w0 w' f base fr to v l p q n P) := by
  refine (xRuns w0 f base fr to v l W h.e.1 hl).mono ?_
  rintro e w' ⟨A, ca, rfl, hr, _, hx, _⟩
  exact ⟨A, ca, rfl, hr, hid (h.ext hx.out)⟩
theorem prAll (w0 : World) (f base : Nat) (fr to : Int) (v : Value) (l : List Pr) (p q n : Nat) (P : Nat → Bool) (W : World) (h : EP w0 W f base fr to v l p q n P) (hb : BI fr P l) : Calls Try.prog 16 #[.pointer (some ⟨p, 0, none⟩)] W fun e w' => e = .returned (.int .i64 (sumP l)) ∧ Hid (EP w0 w' f base fr to v l p q n P) := by
  rw [hb.sum h.r.g (h.e.2.1.ends h.hto) h.r.out]
  refine (rxall p q n fr P W h.r).mono ?_
  rintro e w' ⟨rfl, rfl⟩
  exact ⟨rfl, hid h⟩
theorem prMost (w0 : World) (f base : Nat) (fr to : Int) (v : Value) (l : List Pr) (p q n : Nat) (P : Nat → Bool) (W : World) (h : EP w0 W f base fr to v l p q n P) (hb : BI fr P l) : Calls Try.prog 18 #[.pointer (some ⟨p, 0, none⟩)] W fun e w' => e = .returned (.int .i64 (mostP l)) ∧ Hid (EP w0 w' f base fr to v l p q n P) := by
  refine (rxmost p q n fr P l W h.r hb (h.e.2.1.ends h.hto)).mono ?_
  rintro e w' ⟨rfl, hx⟩
  exact ⟨rfl, hid (h.ext hx)⟩
theorem prRuns (w0 : World) (f base : Nat) (fr to : Int) (v : Value) (l : List Pr) (p q n : Nat) (P : Nat → Bool) (W : World) (h : EP w0 W f base fr to v l p q n P) (hb : BI fr P l) : Calls Try.prog 21 #[.pointer (some ⟨p, 0, none⟩)] W fun e w' => ∃ A ca, e = .returned (.slice A l.length ca) ∧ Hid (RdP w' A l) ∧ Hid (EP w0 w' f base fr to v l p q n P) ∧ Hid (Ext W w') := by
  refine (rxruns p q n fr P l W h.r hb (h.e.2.1.ends h.hto)).mono ?_
  rintro e w' ⟨A, ca, rfl, hr, hx, _⟩
  exact ⟨A, ca, rfl, hr, hid (h.ext hx.out), hx⟩
theorem prTake (w0 : World) (f base : Nat) (fr to : Int) (v : Value) (l : List Pr) (p q n : Nat) (P : Nat → Bool) (W : World) (h : EP w0 W f base fr to v l p q n P) (lo : List Pr) (hb : BI fr P lo) (hG : Good fr to lo) (h6 : G16 lo) (N xa : Int) (xb : Bool) (l2 : List Pr) (ht : takeF N lo = ((xa, xb), l2)) : Calls Try.prog 12 #[.pointer (some ⟨p, 0, none⟩), .int .i64 N] W fun e w' => ∃ P', e = .returned (.tuple #[.int .i64 xa, .bool xb]) ∧ Hid (EP w0 w' f base fr to v l p q n P') ∧ Hid (BI fr P' l2) := by
  by_cases hn : N < 1 ∨ g16 N = false ∨ lo.findIdx? (fits N) = none
  · rw [takeF_no hn] at ht
    simp only [Prod.mk.injEq] at ht
    obtain ⟨⟨rfl, rfl⟩, rfl⟩ := ht
    have : Calls Try.prog 12 #[.pointer (some ⟨p, 0, none⟩), .int .i64 N] W fun e w' => e = .returned (.tuple #[.int .i64 0, .bool false]) ∧ Ext W w' := by
      by_cases h1 : N < 1 ∨ g16 N = false
      · refine (rxtake_no p q n fr P W h.r N h1).mono ?_
        rintro e w' ⟨rfl, rfl⟩
        exact ⟨rfl, Ext.refl _⟩
      · obtain ⟨h2, h3⟩ := not_or.1 h1
        exact rxtake_none p q n fr P lo W h.r hb (hG.ends h.hto) N (by omega) (by simpa using h3) (by rcases hn with c | c | c; exact absurd c h2; exact absurd c h3; exact c)
    refine this.mono ?_
    rintro e w' ⟨rfl, hx⟩
    exact ⟨P, rfl, hid (h.ext hx), hid hb⟩
  · obtain ⟨a1, a2⟩ := not_or.1 hn
    obtain ⟨a3, a4⟩ := not_or.1 a2
    have hn1 : 1 ≤ N := by omega
    have hg : g16 N = true := by simpa using a3
    rcases Option.eq_none_or_eq_some (lo.findIdx? (fits N)) with hf | ⟨k, hf⟩
    · exact absurd hf a4
    · obtain ⟨hk, hfk, _⟩ := List.findIdx?_eq_some_iff_getElem.1 hf
      have hxb : xb = true := by
        have := takeF_yes hn1 hg hf hk
        rw [ht] at this
        simp only [Prod.mk.injEq] at this
        exact this.1.2
      subst hxb
      have hxa : (lo[k]).lo = xa := by
        have := takeF_yes hn1 hg hf hk
        rw [ht] at this
        simp only [Prod.mk.injEq] at this
        exact this.1.1.symm
      have HT := takeF_yesT hG h6 (by rw [ht])
      rw [ht] at HT
      obtain ⟨t1, t2, t3, t4, t5, t6, t7, t8, t9, _⟩ := HT
      have t3' : g16 xa = true := t3
      have t4' : fr ≤ xa := t4
      have t5' : xa + N ≤ to := t5
      have e1 := g16_mult t3' h.r.g t4'
      have e2 := g16_mult0 hg (by omega)
      have hto := h.hto
      refine (rxtake_yes p q n fr P lo W h.r hb (hG.ends h.hto) N hn1 hg k hk hf xa hxa _ _ e1 e2 (by omega)).mono ?_
      rintro e w' ⟨rfl, hr, ho⟩
      exact ⟨_, rfl, hid (h.updR hr.out ho.out), hid (hb.take e1 e2 t7)⟩
theorem prGive (w0 : World) (f base : Nat) (fr to : Int) (v : Value) (l : List Pr) (p q n : Nat) (P : Nat → Bool) (W : World) (h : EP w0 W f base fr to v l p q n P) (lo : List Pr) (hb : BI fr P lo) (hG : Good fr to lo) (at_ N : Int) (hc : giveC fr to at_ N lo) : Calls Try.prog 14 #[.pointer (some ⟨p, 0, none⟩), .int .i64 at_, .int .i64 N] W fun e w' => ∃ P', e = .returned (.bool true) ∧ Hid (EP w0 w' f base fr to v l p q n P') ∧ Hid (BI fr P' (giveL lo (kOf at_ lo) ⟨at_, at_ + N⟩)) ∧ Hid (Only (nwr w0) W w') := by
  have hap := giveC_apart hG hc
  have hgd := giveC_good hG hc
  obtain ⟨hg, c1, c2, c3, c4, _⟩ := hc
  have ga : g16 at_ = true := by simp at hg; exact hg.1
  have gn : g16 N = true := by simp at hg; exact hg.2
  have e1 := g16_mult ga h.r.g c2
  have e2 := g16_mult0 gn (by omega)
  have hto := h.hto
  refine (rxgive_yes p q n fr P W h.r at_ N (not16 ga) (not16 gn) (by omega) (by omega) (by omega) (by omega) _ _ e1 e2 (fun i hi => ?_)).mono ?_
  · cases hp : P (((at_ - fr) / 16).toNat + i) with
    | false => rfl
    | true =>
      exfalso
      refine hap (at_ + 16 * (i : Int)) (by omega) (by omega) ((hb _).2 ⟨by omega, ?_⟩)
      rw [show ((at_ + 16 * (i : Int) - fr) / 16).toNat = ((at_ - fr) / 16).toNat + i by omega]
      exact hp
  · rintro e w' ⟨rfl, hr, ho⟩
    exact ⟨_, rfl, hid (h.updR hr.out ho.out), hid (hb.give e1 e2 (fun y => by rw [hgd.2.1 y]; rfl)), hid (h.nwR ho.out)⟩
theorem prGiveNo (w0 : World) (f base : Nat) (fr to : Int) (v : Value) (l : List Pr) (p q n : Nat) (P : Nat → Bool) (W : World) (h : EP w0 W f base fr to v l p q n P) (lo : List Pr) (hb : BI fr P lo) (hG : Good fr to lo) (at_ N : Int) (hc : ¬ giveC fr to at_ N lo) : Calls Try.prog 14 #[.pointer (some ⟨p, 0, none⟩), .int .i64 at_, .int .i64 N] W fun e w' => e = .returned (.bool false) ∧ Hid (EP w0 w' f base fr to v l p q n P) ∧ Hid (Only (nwr w0) W w') := by
  have hto := h.hto
  suffices Calls Try.prog 14 #[.pointer (some ⟨p, 0, none⟩), .int .i64 at_, .int .i64 N] W fun e w' => e = .returned (.bool false) ∧ Ext W w' by
    refine this.mono ?_
    rintro e w' ⟨rfl, hx⟩
    exact ⟨rfl, hid (h.ext hx), hid (Only.ofExt hx)⟩
  cases ga : g16 at_ with
  | false => exact rxgive_a p q n fr P W h.r at_ N (is16 ga)
  | true =>
    cases gn : g16 N with
    | false => exact rxgive_b p q n fr P W h.r at_ N (not16 ga) (is16 gn)
    | true =>
      by_cases k0 : N < 1
      · exact rxgive_c p q n fr P W h.r at_ N (not16 ga) (not16 gn) k0
      by_cases k1 : at_ < fr
      · exact rxgive_d p q n fr P W h.r at_ N (not16 ga) (not16 gn) k0 k1
      by_cases k2 : fr + 16 * (n : Int) < at_
      · exact rxgive_e p q n fr P W h.r at_ N (not16 ga) (not16 gn) k0 k1 k2
      by_cases k3 : fr + 16 * (n : Int) - at_ < N
      · exact rxgive_f p q n fr P W h.r at_ N (not16 ga) (not16 gn) k0 k1 k2 k3
      have e1 := g16_mult ga h.r.g (show fr ≤ at_ by omega)
      have e2 := g16_mult0 gn (by omega)
      have hex : ∃ i, i < (N / 16).toNat ∧ P (((at_ - fr) / 16).toNat + i) = true := by
        refine Classical.byContradiction fun hno => hc (giveC_of hG ga gn (by omega) (by omega) (by omega) fun y y0 y1 hy => hno ?_)
        have hy2 := (hb y).1 hy
        refine ⟨((y - fr) / 16).toNat - ((at_ - fr) / 16).toNat, by omega, ?_⟩
        rw [show ((at_ - fr) / 16).toNat + (((y - fr) / 16).toNat - ((at_ - fr) / 16).toNat) = ((y - fr) / 16).toNat by omega]
        exact hy2.2
      obtain ⟨i0, h1, h2, h3⟩ := least (Q := fun i => P (((at_ - fr) / 16).toNat + i)) _ hex
      exact rxgive_occ p q n fr P W h.r at_ N (not16 ga) (not16 gn) k0 k1 k2 k3 _ _ e1 e2 i0 h1 h2 h3
theorem yNew3 (fr to : Int) (w : World) (h0 : 0 ≤ fr) (h1 : fr ≤ to) (h2 : to ≤ 16777216) (g0 : g16 fr = true) (g1 : g16 to = true) : Calls Try.prog 9 #[.int .i64 fr, .int .i64 to] w fun e w' => ∃ q, e = .returned (.pointer (some ⟨q, 0, none⟩)) ∧ ∃ v l, Hid (EG w w' q w.heap.size fr to v l) ∧ Hid (G16 l ∧ ∀ y, inL y l ↔ fr ≤ y ∧ y < to) := by
  rcases Int.lt_or_le fr to with c | c
  · refine (yNew fr to w h0 c h2 g0 g1).mono ?_
    rintro e w' ⟨q, v, rfl, h⟩
    exact ⟨q, rfl, v, _, h, hid ⟨g16_ends g0 g1, fun y => ⟨fun hy => by
      obtain ⟨p, hp, hy⟩ := hy
      obtain rfl : p = _ := List.mem_singleton.1 hp
      exact hy, fun hy => ⟨_, List.mem_singleton.2 rfl, hy⟩⟩⟩⟩
  · obtain rfl : fr = to := by omega
    refine (enew0_ fr fr w (g16_two g0 g1) h0 rfl h2).mono ?_
    rintro e w' ⟨q, rfl, _, hx, hF⟩
    exact ⟨q, rfl, _, [], hid ⟨⟨hF, hx, Nat.le_refl _⟩, Good.nil _ _, h0, h2⟩, hid ⟨(fun p hp => nomatch hp), fun y => ⟨fun hy => absurd hy (inL_nil y), fun hy => by omega⟩⟩⟩
theorem yNo (fr to : Int) (w : World) (h2 : to ≤ 16777216) (hc : ¬ (g16 fr = true ∧ g16 to = true ∧ 0 ≤ fr ∧ fr ≤ to)) : Calls Try.prog 9 #[.int .i64 fr, .int .i64 to] w fun e w' => e = .returned (.pointer none) ∧ Ext w w' := by
  by_cases hg : [fr, to].all g16 = true
  · by_cases k0 : fr < 0
    · exact enew_no2 fr to w hg k0
    · by_cases k1 : to < fr
      · exact enew_no3 fr to w hg (by omega) k1
      · refine absurd ?_ hc
        simp at hg
        exact ⟨hg.1, hg.2, by omega, by omega⟩
  · exact enew_no1 fr to w (by simpa using hg)
theorem rxno (fr to : Int) (w : World) (hc : ¬ (g16 fr = true ∧ g16 to = true ∧ 0 ≤ fr ∧ fr ≤ to)) : Calls Try.prog 10 #[.int .i64 fr, .int .i64 to] w fun e w' => e = .returned (.pointer none) ∧ w = w' := by
  cases ga : g16 fr with
  | false => exact rxno1 fr to w ga
  | true =>
    cases gb : g16 to with
    | false => exact rxno2 fr to w ga gb
    | true => exact rxno3 fr to w ga gb (by
        by_cases k : fr < 0
        · exact .inl k
        · exact .inr (by rcases Int.lt_or_le to fr with c | c; exact c; exact absurd ⟨ga, gb, by omega, c⟩ hc))

end Go.Proofs.Ytkjakaoimbmcjaa
