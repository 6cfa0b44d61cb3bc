/- Layer 12: the document's free memory: facts, New, All. -/
import Derived.Test.YtkjakaoimbmcjaaExtY
namespace Go.Proofs.Ytkjakaoimbmcjaa
set_option linter.unusedSimpArgs false
set_option linter.unusedVariables false
open Go.RowKit

theorem heap_setCell (w : World) (b o : Nat) (v : Value) (i : Nat) : (w.setCell ⟨b, o, none⟩ v).heap[i]? = if b = i then (w.heap[i]?).map (fun | .cells c e f => .cells (c.setIfInBounds o v) e f | x => x) else w.heap[i]? := by
  unfold World.setCell
  simp only [Array.getElem?_modify]
  split
  · congr 1
  · rfl
theorem cell_setCell_self (w : World) (b o : Nat) (v : Value) : (w.setCell ⟨b, o, none⟩ v).cell? ⟨b, o, none⟩ = (w.cell? ⟨b, o, none⟩).map fun _ => v := by
  unfold World.cell?
  rw [heap_setCell]
  simp only [if_true]
  cases h : w.heap[b]? with
  | none => rfl
  | some x =>
    cases x with
    | cells c e f =>
      simp
      by_cases hl : o < c.size
      · simp [hl]
      · simp [hl]
    | _ => rfl
theorem cell_setCell_far (w : World) (b o b' o' : Nat) (v : Value) (h : ¬ (b' = b ∧ o' = o)) : (w.setCell ⟨b, o, none⟩ v).cell? ⟨b', o', none⟩ = w.cell? ⟨b', o', none⟩ := by
  unfold World.cell?
  rw [heap_setCell]
  by_cases hb : b = b'
  · subst hb
    simp only [if_true]
    cases w.heap[b]? with
    | none => rfl
    | some x =>
      cases x with
      | cells c e f =>
        simp
        rw [Array.getElem?_setIfInBounds, if_neg (by omega)]
      | _ => rfl
  · rw [if_neg hb]
/-- The document's free memory: which granules are free. -/
structure Rx (w : World) (p q n : Nat) (fr : Int) (P : Nat → Bool) : Prop where
  np : ¬ p = q
  ltp : p < w.heap.size
  ltq : q < w.heap.size
  c0 : w.cell? ⟨p, 0, none⟩ = some (.int .i64 fr)
  c1 : w.cell? ⟨p, 1, none⟩ = some (.slice (some ⟨q, 0, none⟩) n n)
  grans : ∀ i, i < n → w.cell? ⟨q, i, none⟩ = some (.bool (P i)) ∧ w.frozen? ⟨q, i, none⟩ = false
  out : ∀ i, n ≤ i → P i = false
  bd : n ≤ 1250
  b0 : 0 ≤ fr
  b1 : fr + 16 * (n : Int) ≤ 20000
  g : g16 fr = true
def updP (P : Nat → Bool) (i : Nat) (b : Bool) : Nat → Bool := fun j => if j = i then b else P j
theorem Rx.only {S : Nat → Prop} {w w' : World} {p q n : Nat} {fr : Int} {P : Nat → Bool} (h : Rx w p q n fr P) (x : Only S w w') (hp : ¬ S p) (hq : ¬ S q) : Rx w' p q n fr P :=
  ⟨h.np, Nat.lt_of_lt_of_le h.ltp x.size, Nat.lt_of_lt_of_le h.ltq x.size, (x.cells p _ h.ltp hp).trans h.c0, (x.cells p _ h.ltp hp).trans h.c1,
    fun k hk => by rw [x.cells q _ h.ltq hq, x.frozens q _ h.ltq hq]; exact h.grans k hk, h.out, h.bd, h.b0, h.b1, h.g⟩
theorem Rx.ext {w w' : World} {p q n : Nat} {fr : Int} {P : Nat → Bool} (h : Rx w p q n fr P) (x : Ext w w') : Rx w' p q n fr P := h.only (Only.ofExt (S := fun _ => False) x) id id
theorem Rx.set {w : World} {p q n i : Nat} {fr : Int} {P : Nat → Bool} (h : Rx w p q n fr P) (hi : i < n) (b : Bool) : Rx (w.setCell ⟨q, i, none⟩ (.bool b)) p q n fr (updP P i b) := by
  have x : Only (· = q) w (w.setCell ⟨q, i, none⟩ (.bool b)) := Only.setCell (S := (· = q)) (Only.refl _ w) (.inl rfl) _
  refine ⟨h.np, Nat.lt_of_lt_of_le h.ltp x.size, Nat.lt_of_lt_of_le h.ltq x.size, (x.cells p _ h.ltp h.np).trans h.c0, (x.cells p _ h.ltp h.np).trans h.c1, fun k hk => ?_, fun j hj => ?_, h.bd, h.b0, h.b1, h.g⟩
  · obtain ⟨h1, h2⟩ := h.grans k hk
    refine ⟨?_, by rw [World.frozen?_setCell]; exact h2⟩
    unfold updP
    by_cases e : k = i
    · subst e
      rw [cell_setCell_self, h1, if_pos rfl]
      rfl
    · rw [cell_setCell_far _ _ _ _ _ _ (by omega), h1, if_neg e]
  · unfold updP
    rw [if_neg (by omega)]
    exact h.out j hj
theorem Rx.congr {w : World} {p q n : Nat} {fr : Int} {P P' : Nat → Bool} (h : Rx w p q n fr P) (e : ∀ i, P' i = P i) : Rx w p q n fr P' := by
  have : P' = P := funext e
  rw [this]
  exact h
/-- Which numbers are free, as granules tell it. -/
def BI (fr : Int) (P : Nat → Bool) (l : List Pr) : Prop := ∀ y, inL y l ↔ fr ≤ y ∧ P ((y - fr) / 16).toNat = true
/-- How much is free, up to a granule. -/
def cnB (P : Nat → Bool) : Nat → Int
  | 0 => 0
  | k + 1 => if P k then cnB P k + 16 else cnB P k
theorem cnB_bd (P : Nat → Bool) : ∀ k, 0 ≤ cnB P k ∧ cnB P k ≤ 16 * (k : Int)
  | 0 => ⟨Int.le_refl _, Int.le_refl _⟩
  | k + 1 => by
    have := cnB_bd P k
    unfold cnB
    split <;> omega
theorem rows_are (fr : Int) (P : Nat → Bool) (n : Nat) (hg : g16 fr = true) : ∀ k, k ≤ n → ∃ L, Good fr (fr + 16 * (n : Int)) L ∧ (∀ y, inL y L ↔ fr ≤ y ∧ y < fr + 16 * (k : Int) ∧ P ((y - fr) / 16).toNat = true) ∧ sumP L = cnB P k
  | 0, _ => ⟨[], Good.nil _ _, fun y => ⟨fun h => absurd h (inL_nil y), fun h => by omega⟩, rfl⟩
  | k + 1, hk => by
    obtain ⟨L, h1, h2, h3⟩ := rows_are fr P n hg k (by omega)
    cases hp : P k with
    | false =>
      refine ⟨L, h1, fun y => ?_, by simp [cnB, hp, h3]⟩
      rw [h2 y]
      constructor
      · rintro ⟨a, b, c⟩; exact ⟨a, by omega, c⟩
      · rintro ⟨a, b, c⟩
        refine ⟨a, ?_, c⟩
        rcases Int.lt_or_le y (fr + 16 * (k : Int)) with d | d
        · exact d
        · exfalso
          have : ((y - fr) / 16).toNat = k := by omega
          rw [this, hp] at c
          cases c
    | true =>
      have hc : giveC fr (fr + 16 * (n : Int)) (fr + 16 * (k : Int)) 16 L := giveC_of h1 (g16_add hg (g16_mul _)) (by decide) (by decide) (by omega) (by omega) fun y y0 y1 hy => by
        have := (h2 y).1 hy
        omega
      obtain ⟨g1, g2, g3⟩ := giveC_good h1 hc
      refine ⟨_, g1, fun y => ?_, by rw [g3, h3]; simp [cnB, hp]⟩
      rw [g2 y, h2 y]
      unfold inP
      simp only
      constructor
      · rintro (⟨a, b, c⟩ | ⟨a, b⟩)
        · exact ⟨a, by omega, c⟩
        · refine ⟨by omega, by omega, ?_⟩
          have : ((y - fr) / 16).toNat = k := by omega
          rw [this, hp]
      · rintro ⟨a, b, c⟩
        rcases Int.lt_or_le y (fr + 16 * (k : Int)) with d | d
        · exact .inl ⟨a, d, c⟩
        · exact .inr ⟨d, by omega⟩
theorem BI.lt {fr : Int} {P : Nat → Bool} {l : List Pr} {n : Nat} (h : BI fr P l) (ho : ∀ i, n ≤ i → P i = false) {y : Int} (hy : inL y l) : y < fr + 16 * (n : Int) := by
  obtain ⟨a, b⟩ := (h y).1 hy
  rcases Int.lt_or_le y (fr + 16 * (n : Int)) with d | d
  · exact d
  · rw [ho _ (by omega)] at b
    cases b
theorem BI.sum {fr : Int} {P : Nat → Bool} {l : List Pr} {n : Nat} (h : BI fr P l) (hg : g16 fr = true) (hG : Good fr (fr + 16 * (n : Int)) l) (ho : ∀ i, n ≤ i → P i = false) : sumP l = cnB P n := by
  obtain ⟨L, h1, h2, h3⟩ := rows_are fr P n hg n (Nat.le_refl _)
  rw [canon l L fr hG h1 fun y => by
    rw [h y, h2 y]
    constructor
    · rintro ⟨a, b⟩; exact ⟨a, h.lt ho ((h y).2 ⟨a, b⟩), b⟩
    · rintro ⟨a, _, b⟩; exact ⟨a, b⟩]
  exact h3
/-- Rows that have been told, up to a granule. -/
structure RI (fr : Int) (P : Nat → Bool) (k : Nat) (L : List Pr) : Prop where
  good : Good fr (fr + 16 * (k : Int)) L
  low : ∀ p ∈ L, p.hi < fr + 16 * (k : Int)
  ins : ∀ y, inL y L ↔ fr ≤ y ∧ y < fr + 16 * (k : Int) ∧ P ((y - fr) / 16).toNat = true
theorem RI.start (fr : Int) (P : Nat → Bool) : RI fr P 0 [] := ⟨Good.nil _ _, (fun p h => nomatch h), fun y => ⟨fun h => absurd h (inL_nil y), fun h => by omega⟩⟩
theorem RI.skip {fr : Int} {P : Nat → Bool} {k : Nat} {L : List Pr} (h : RI fr P k L) (hp : P k = false) : RI fr P (k + 1) L := by
  refine ⟨⟨h.good.1, fun x hx => by have := h.good.2 x hx; omega⟩, fun p hp => by have := h.low p hp; omega, fun y => ?_⟩
  rw [h.ins y]
  constructor
  · rintro ⟨a, b, c⟩; exact ⟨a, by omega, c⟩
  · rintro ⟨a, b, c⟩
    refine ⟨a, ?_, c⟩
    rcases Int.lt_or_le y (fr + 16 * (k : Int)) with d | d
    · exact d
    · exfalso
      have : ((y - fr) / 16).toNat = k := by omega
      rw [this, hp] at c
      cases c
theorem RI.row {fr : Int} {P : Nat → Bool} {k j : Nat} {L : List Pr} (h : RI fr P k L) (hkj : k < j) (hp : ∀ i, k ≤ i → i < j → P i = true) (hn : P j = false) : RI fr P (j + 1) (L ++ [Pr.mk (fr + 16 * (k : Int)) (fr + 16 * (j : Int))]) := by
  have hj : ((j + 1 : Nat) : Int) = (j : Int) + 1 := by omega
  refine ⟨good_append.2 ⟨⟨h.good.1, fun x hx => by have := h.good.2 x hx; omega⟩, ⟨List.pairwise_singleton _ _, fun x hx => ?_⟩, fun x hx y hy => ?_⟩, fun p hp => ?_, fun y => ?_⟩
  · obtain rfl : x = _ := List.mem_singleton.1 hx
    simp only
    omega
  · obtain rfl : y = _ := List.mem_singleton.1 hy
    exact h.low x hx
  · rcases List.mem_append.1 hp with hp | hp
    · have := h.low p hp; omega
    · obtain rfl : p = _ := List.mem_singleton.1 hp
      simp only
      omega
  · rw [inL_append, h.ins y, inL_cons]
    unfold inP
    simp only
    constructor
    · rintro (⟨a, b, c⟩ | ⟨a, b⟩ | c)
      · exact ⟨a, by omega, c⟩
      · exact ⟨by omega, by omega, hp _ (by omega) (by omega)⟩
      · exact absurd c (inL_nil y)
    · rintro ⟨a, b, c⟩
      rcases Int.lt_or_le y (fr + 16 * (k : Int)) with d | d
      · exact .inl ⟨a, d, c⟩
      · rcases Int.lt_or_le y (fr + 16 * (j : Int)) with e | e
        · exact .inr (.inl ⟨d, e⟩)
        · exfalso
          have : ((y - fr) / 16).toNat = j := by omega
          rw [this, hn] at c
          cases c
theorem RI.done {fr : Int} {P : Nat → Bool} {k n : Nat} {L l : List Pr} (h : RI fr P k L) (hk : n ≤ k) (ho : ∀ i, n ≤ i → P i = false) (hb : BI fr P l) (hG : Good fr (fr + 16 * (n : Int)) l) : L = l := by
  have hB : BI fr P L := fun y => by
    rw [h.ins y]
    constructor
    · rintro ⟨a, _, b⟩; exact ⟨a, b⟩
    · rintro ⟨a, b⟩
      have := hb.lt ho ((hb y).2 ⟨a, b⟩)
      exact ⟨a, by omega, b⟩
  refine canon L l fr ⟨h.good.1, fun x hx => ?_⟩ hG fun y => (hB y).trans (hb y).symm
  have h1 := h.good.2 x hx
  have h2 := hB.lt ho (y := x.hi - 1) ⟨x, hx, by unfold inP; omega⟩
  refine ⟨h1.1, h1.2.1, ?_⟩
  -- the end is a multiple of a granule
  have h3 := (hB (x.hi - 1)).1 ⟨x, hx, by unfold inP; omega⟩
  omega
theorem BI.take {fr a n : Int} {P : Nat → Bool} {l l2 : List Pr} (h : BI fr P l) {a0 m : Nat} (ha : a = fr + 16 * (a0 : Int)) (hn : n = 16 * (m : Int)) (h2 : ∀ y, inL y l2 ↔ inL y l ∧ ¬ (a ≤ y ∧ y < a + n)) : BI fr (fun i => P i && !(decide (a0 ≤ i ∧ i < a0 + m))) l2 := fun y => by
  rw [h2 y, h y]
  simp only [Bool.and_eq_true, Bool.not_eq_true', decide_eq_false_iff_not]
  constructor
  · rintro ⟨⟨c, d⟩, e⟩
    exact ⟨c, d, by omega⟩
  · rintro ⟨c, d, e⟩
    exact ⟨⟨c, d⟩, by omega⟩
theorem BI.give {fr a n : Int} {P : Nat → Bool} {l l2 : List Pr} (h : BI fr P l) {a0 m : Nat} (ha : a = fr + 16 * (a0 : Int)) (hn : n = 16 * (m : Int)) (h2 : ∀ y, inL y l2 ↔ inL y l ∨ (a ≤ y ∧ y < a + n)) : BI fr (fun i => P i || decide (a0 ≤ i ∧ i < a0 + m)) l2 := fun y => by
  rw [h2 y, h y]
  simp only [Bool.or_eq_true, decide_eq_true_eq]
  constructor
  · rintro (⟨c, d⟩ | e)
    · exact ⟨c, .inl d⟩
    · exact ⟨by omega, .inr (by omega)⟩
  · rintro ⟨c, d | e⟩
    · exact .inl ⟨c, d⟩
    · exact .inr (by omega)
theorem info_bool : (Try.prog.info? 4).map (fun i => (i.zero, i.size, i.bytes)) = some (some (.bool false), 1, 1) := by kernel_rfl
theorem made_bools {w : World} {base g m : Nat} (h : w.ownsRow base 4 1 (.slice (some ⟨g, 0, none⟩) m m) m (madeCells #[Value.bool false] m).toList) :
    g < w.heap.size ∧ ∀ k, k < m → w.cell? ⟨g, k, none⟩ = some (.bool false) ∧ w.frozen? ⟨g, k, none⟩ = false := by
  rcases h.2 with ⟨h0, _⟩ | ⟨g', cap, cur, hv, _, hg, _, _, hs, ht⟩
  · injection h0 with e; cases e
  · injection hv with e1 e2 e3
    injection e1 with e1
    injection e1 with e1
    subst e1
    refine ⟨(Array.getElem?_eq_some_iff.1 hg).1, fun k hk => ⟨?_, by simp [World.frozen?, hg]⟩⟩
    rw [h.cellAt k (by omega)]
    rw [toList_madeCells_one]
    simp [hk]
set_option maxRecDepth 100000 in
set_option maxHeartbeats 4000000 in
theorem rxno1 (fr to : Int) (w : World) (g0 : g16 fr = false) : Calls Try.prog 10 #[.int .i64 fr, .int .i64 to] w fun e w' => e = .returned (.pointer none) ∧ w = w' := by
  have h0 : ¬ fr.tmod 16 = 0 := of_decide_eq_false g0
  clear g0
  go_enter Try.func10, Try.ntmps10
  go_wp2
  go_ret
  exact ⟨rfl, rfl⟩
set_option maxRecDepth 100000 in
set_option maxHeartbeats 4000000 in
theorem rxno2 (fr to : Int) (w : World) (g0 : g16 fr = true) (g1 : g16 to = false) : Calls Try.prog 10 #[.int .i64 fr, .int .i64 to] w fun e w' => e = .returned (.pointer none) ∧ w = w' := by
  have h0 : fr.tmod 16 = 0 := of_decide_eq_true g0
  have h1 : ¬ to.tmod 16 = 0 := of_decide_eq_false g1
  clear g0 g1
  go_enter Try.func10, Try.ntmps10
  go_wp2
  go_ret
  exact ⟨rfl, rfl⟩
set_option maxRecDepth 100000 in
set_option maxHeartbeats 4000000 in
theorem rxno3 (fr to : Int) (w : World) (g0 : g16 fr = true) (g1 : g16 to = true) (k0 : fr < 0 ∨ to < fr) : Calls Try.prog 10 #[.int .i64 fr, .int .i64 to] w fun e w' => e = .returned (.pointer none) ∧ w = w' := by
  have h0 : fr.tmod 16 = 0 := of_decide_eq_true g0
  have h1 : to.tmod 16 = 0 := of_decide_eq_true g1
  clear g0 g1
  by_cases k1 : fr < 0
  · clear k0
    go_enter Try.func10, Try.ntmps10
    go_wp2
    go_ret
    exact ⟨rfl, rfl⟩
  · have k2 : to < fr := k0.resolve_left k1
    clear k0
    go_enter Try.func10, Try.ntmps10
    go_wp2
    go_ret
    exact ⟨rfl, rfl⟩
set_option maxRecDepth 100000 in
set_option maxHeartbeats 4000000 in
theorem rxnew (fr to : Int) (n : Nat) (w : World) (g0 : g16 fr = true) (g1 : g16 to = true) (b0 : 0 ≤ fr) (b1 : to ≤ 20000) (hto : to = fr + 16 * (n : Int)) : Calls Try.prog 10 #[.int .i64 fr, .int .i64 to] w fun e w' => ∃ p, e = .returned (.pointer (some ⟨p, 0, none⟩)) ∧ ∃ q, Hid (Rx w' p q n fr (fun i => decide (i < n))) ∧ Hid (Ext w w') ∧ w.heap.size ≤ p ∧ w.heap.size ≤ q := by
  obtain ⟨i0, hi0, hz0, hz1, hz2⟩ := info_parts info_bool
  have h0 : fr.tmod 16 = 0 := of_decide_eq_true g0
  have h1 : to.tmod 16 = 0 := of_decide_eq_true g1
  have hn : n ≤ 1250 := by omega
  have k0 : ¬ fr < 0 := by omega
  have k1 : ¬ to < fr := by omega
  have k2 : ¬ (16777216 : Int) < to := by omega
  have b1' : fr + 16 * (n : Int) ≤ 20000 := by omega
  have hsub : wrap64 (to - fr) = 16 * (n : Int) := by rw [hto, wrapP (by omega) (by omega)]; omega
  have hq : (16 * (n : Int)).tdiv 16 = (n : Int) := by rw [Int.tdiv_eq_ediv_of_nonneg (by omega)]; omega
  have hq2 : wrap64 (n : Int) = (n : Int) := wrapP (by omega) (by omega)
  have hsub2 : to - fr = 16 * (n : Int) := by omega
  have HG0 := hid g0
  have HB1 := hid b1'
  clear g0 g1 hto b1'
  go_enter Try.func10, Try.ntmps10
  go_upto_region 4 with (at_make; refine wpList_make_full _ rfl _ _ 43 rfl w.heap.size 4 i0 _ 1 Try.underlying43 hi0 hz0 hz1 .i64 .i64 _ _ n rfl rfl rfl rfl (by rw [hz2]; omega) (by unfold maxLen; omega) (Nat.le_refl _) ?_; intro w1 hown hg)
  have hx1 : Ext w w1 := ⟨hg.os, hg.tape, hg.output, hg.size, fun k hk => hg.block k hk (by simp)⟩
  rw [Nat.mul_one] at hown
  obtain ⟨hql, hqw⟩ := made_bools hown
  have hsz := hx1.size
  have HX : Hid (Ext w (w1.alloc (.cells #[.int .i64 fr, .slice (some ⟨w.heap.size, 0, none⟩) n n] 49))) := hid (Ext.alloc hx1 _)
  have HR : Hid (Rx (w1.alloc (.cells #[.int .i64 fr, .slice (some ⟨w.heap.size, 0, none⟩) n n] 49)) w1.heap.size w.heap.size n fr (fun i => decide (i < 0))) := hid (by
    have x := Ext.alloc (Ext.refl w1) (.cells #[.int .i64 fr, .slice (some ⟨w.heap.size, 0, none⟩) n n] 49)
    refine ⟨by omega, by simp, by simp; omega, by simp [go_sem], by simp [go_sem], fun k hk => ?_, fun i _ => by simp, hn, b0, HB1.out, HG0.out⟩
    obtain ⟨f1, f2⟩ := hqw k hk
    exact ⟨by rw [(x.cells _ _ hql).trans f1]; simp, (x.frozens _ _ hql).trans f2⟩)
  clear hown hg hqw hx1 hsub hq hq2 hsub2
  generalize hW : w1.alloc (.cells #[.int .i64 fr, .slice (some ⟨w.heap.size, 0, none⟩) n n] 49) = W at HX HR ⊢
  obtain ⟨p, hp⟩ : ∃ x, w1.heap.size = x := ⟨_, rfl⟩
  obtain ⟨q, hqe⟩ : ∃ x, w.heap.size = x := ⟨_, rfl⟩
  rw [hp, hqe] at HR
  rw [hp] at hsz
  rw [hp]
  clear hql hW
  go_wp2
  go_loopw [6] (fun i wr => ∃ k : Nat, k ≤ n ∧ i = .int .i64 k ∧ Hid (Rx wr p q n fr (fun i => decide (i < k))) ∧ Hid (Ext w wr)) (fun i _ => n - (intOf i).toNat)
  case atStart => exact ⟨0, Nat.zero_le _, rfl, HR, HX⟩
  case round =>
    clear HR HX
    obtain ⟨k, hk, rfl, HR, HX⟩ := hrel
    have c1 := HR.out.c1
    have hlp := HR.out.ltp
    by_cases hlt : k < n
    · have hk1 : (k : Int) < (n : Int) := by omega
      have hk0 : (0 : Int) ≤ (k : Int) := by omega
      obtain ⟨f1, f2⟩ := HR.out.grans k hlt
      have HR2 := hid ((HR.out.set hlt true).congr (P' := fun i => decide (i < k + 1)) (fun i => by unfold updP; by_cases e : i = k <;> simp [e] <;> omega))
      have HX2 := hid (Ext.setCell HX.out (p := ⟨q, k, none⟩) (by show w.heap.size ≤ q; omega) (.bool true))
      go_wp2
      go_roundw
      case rel => exact ⟨k + 1, by omega, by go_num, HR2, HX2⟩
      case measure => simp [intOf]; omega
    · obtain rfl : k = n := by omega
      have hk1 : ¬ (k : Int) < (k : Int) := by omega
      go_wp2
      go_ret
      exact ⟨p, rfl, q, HR, HX, by omega, by omega⟩
set_option maxRecDepth 100000 in
set_option maxHeartbeats 4000000 in
theorem rxall (p q n : Nat) (fr : Int) (P : Nat → Bool) (w : World) (h : Rx w p q n fr P) : Calls Try.prog 16 #[.pointer (some ⟨p, 0, none⟩)] w fun e w' => e = .returned (.int .i64 (cnB P n)) ∧ w = w' := by
  have c1 := h.c1
  have hlp := h.ltp
  have hlq := h.ltq
  have hbd := h.bd
  have HH := hid h
  clear h
  go_enter Try.func16, Try.ntmps16
  go_wp2
  go_loop [3, 4] (fun s iv => ∃ k : Nat, k ≤ n ∧ iv = .int .i64 (k : Int) ∧ s = .int .i64 (cnB P k)) (fun _ iv => n - (intOf iv).toNat)
  case atStart => exact ⟨0, Nat.zero_le _, rfl, rfl⟩
  case round =>
    obtain ⟨k, hk, rfl, rfl⟩ := hrel
    by_cases hlt : k < n
    · obtain ⟨hc, _⟩ := HH.out.grans k hlt
      have hk0 : (0 : Int) ≤ (k : Int) := by omega
      have hk1 : (k : Int) < (n : Int) := by omega
      obtain ⟨s0, s1⟩ := cnB_bd P k
      have s2 : cnB P k ≤ 20000 := by omega
      cases hp : P k with
      | false =>
        have HS : Hid (cnB P (k + 1) = cnB P k) := hid (by rw [cnB, hp]; rfl)
        rw [hp] at hc
        generalize cnB P k = S at *
        go_wp2
        go_round
        case rel => exact ⟨k + 1, by omega, by go_num, by rw [HS.out]⟩
        case measure => simp [intOf]; omega
      | true =>
        have HS : Hid (cnB P (k + 1) = cnB P k + 16) := hid (by rw [cnB, hp]; rfl)
        rw [hp] at hc
        generalize cnB P k = S at *
        go_wp2
        go_round
        case rel => exact ⟨k + 1, by omega, by go_num, by rw [HS.out]⟩
        case measure => simp [intOf]; omega
    · obtain rfl : k = n := by omega
      have hk1 : ¬ (k : Int) < (k : Int) := by omega
      go_wp2
      go_ret
      exact ⟨rfl, rfl⟩

end Go.Proofs.Ytkjakaoimbmcjaa
