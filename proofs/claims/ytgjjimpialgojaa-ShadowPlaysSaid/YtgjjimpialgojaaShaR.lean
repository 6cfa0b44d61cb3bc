/- Layer 8: the document's map. -/
import Derived.Test.YtgjjimpialgojaaShaK
namespace Go.Proofs.Ytgjjimpialgojaa
set_option linter.unusedSimpArgs false
set_option linter.unusedVariables false
open Go.RowKit


/-- The document's map: its block, its granules' block. -/
structure Rf (w : World) (p q n : Nat) (P : Nat → Bool) : Prop where
  np : ¬ p = q
  ltp : p < w.heap.size
  ltq : q < w.heap.size
  c0 : w.cell? ⟨p, 0, none⟩ = some (.slice (some ⟨q, 0, none⟩) n n)
  grans : ∀ i, i < n → w.cell? ⟨q, i, none⟩ = some (.bool (P i)) ∧ w.frozen? ⟨q, i, none⟩ = false
  out : ∀ i, n ≤ i → P i = false
  bd : 1 ≤ n ∧ n ≤ 1048576
theorem Rf.only {S : Nat → Prop} {w w' : World} {p q n : Nat} {P : Nat → Bool} (h : Rf w p q n P) (x : Only S w w') (hp : ¬ S p) (hq : ¬ S q) : Rf w' p q n P :=
  ⟨h.np, Nat.lt_of_lt_of_le h.ltp x.size, Nat.lt_of_lt_of_le h.ltq x.size, by rw [x.cells p _ h.ltp hp]; exact h.c0,
    fun k hk => by rw [x.cells q _ h.ltq hq, x.frozens q _ h.ltq hq]; exact h.grans k hk, h.out, h.bd⟩
theorem Rf.ext {w w' : World} {p q n : Nat} {P : Nat → Bool} (h : Rf w p q n P) (x : Ext w w') : Rf w' p q n P := h.only (Only.ofExt (S := fun _ => False) x) id id
theorem Rf.set {w : World} {p q n i : Nat} {P : Nat → Bool} (h : Rf w p q n P) (hi : i < n) (b : Bool) : Rf (w.setCell ⟨q, i, none⟩ (.bool b)) p q n (updP P i b) := by
  have x : Only (· = q) w (w.setCell ⟨q, i, none⟩ (.bool b)) := Only.setCell (S := (· = q)) (Only.refl _ w) (.inl rfl) _
  refine ⟨h.np, Nat.lt_of_lt_of_le h.ltp x.size, Nat.lt_of_lt_of_le h.ltq x.size, by rw [x.cells p _ h.ltp h.np]; exact h.c0, fun k hk => ?_, fun j hj => ?_, h.bd⟩
  · obtain ⟨h1, h2⟩ := h.grans k hk
    refine ⟨?_, by rw [World.frozen?_setCell]; exact h2⟩
    unfold updP
    by_cases e : k = i
    · subst e
      rw [cell_setCell_self, h1, if_pos rfl]
      rfl
    · rw [cell_setCell_far _ _ _ _ _ _ (by omega), h1, if_neg e]
  · unfold updP
    rw [if_neg (by omega)]
    exact h.out j hj
theorem info_bool : (Try.prog.info? 4).map (fun i => (i.zero, i.size, i.bytes)) = some (some (.bool false), 1, 1) := by kernel_rfl
theorem made_bools {w : World} {base g m : Nat} (h : w.ownsRow base 4 1 (.slice (some ⟨g, 0, none⟩) m m) m (madeCells #[Value.bool false] m).toList) :
    g < w.heap.size ∧ ∀ k, k < m → w.cell? ⟨g, k, none⟩ = some (.bool false) ∧ w.frozen? ⟨g, k, none⟩ = false := by
  rcases h.2 with ⟨h0, _⟩ | ⟨g', cap, cur, hv, _, hg, _, _, hs, ht⟩
  · injection h0 with e; cases e
  · injection hv with e1 e2 e3
    injection e1 with e1
    injection e1 with e1
    subst e1
    refine ⟨(Array.getElem?_eq_some_iff.1 hg).1, fun k hk => ⟨?_, by simp [World.frozen?, hg]⟩⟩
    rw [h.cellAt k (by omega)]
    rw [toList_madeCells_one]
    simp [hk]
def RNewIs (n : Nat) (w : World) (e : Ending) (w' : World) : Prop := ∃ p q, e = .returned (.pointer (some ⟨p, 0, none⟩)) ∧ Rf w' p q n (fun _ => false) ∧ Ext w w' ∧ w.heap.size ≤ p ∧ w.heap.size ≤ q
set_option maxHeartbeats 1000000 in
theorem rnew_low (g : Int) (w : World) (h : g < 1) :
    Calls Try.prog 10 #[.int .i64 g] w fun e w' => e = .returned (.pointer none) ∧ w = w' := by
  go_enter Try.func10, Try.ntmps10
  go_wp2
  go_ret
  exact ⟨rfl, rfl⟩

set_option maxHeartbeats 1000000 in
theorem rnew_ (n : Nat) (w : World) (h1 : 1 ≤ n) (h2 : n ≤ 1048576) :
    Calls Try.prog 10 #[.int .i64 (n : Int)] w fun e w' => RNewIs n w e w' := by
  obtain ⟨i0, hi0, hz0, hz1, hz2⟩ := info_parts info_bool
  go_enter Try.func10, Try.ntmps10
  go_wp2_with (at_make; refine wpList_make_full _ rfl _ _ 49 rfl w.heap.size 4 i0 _ 1 Try.underlying49 hi0 hz0 hz1 .i64 .i64 _ _ n rfl rfl rfl rfl (by rw [hz2]; omega) (by unfold maxLen; omega) (Nat.le_refl _) ?_)
  intro w1 hown hg
  have hx1 : Ext w w1 := ⟨hg.os, hg.tape, hg.output, hg.size, fun k hk => hg.block k hk (by simp)⟩
  obtain ⟨hql, hqw⟩ := made_bools hown
  have HQW := hid hqw
  clear hown hg hqw
  have hsz := hx1.size
  go_wp2
  go_ret
  refine ⟨w1.heap.size, w.heap.size, rfl, ⟨by omega, by simp, by simp; omega, by simp [go_sem], fun k hk => ?_, fun _ _ => rfl, h1, h2⟩, (by repeat (first | (with_reducible exact Ext.refl _) | (with_reducible refine Ext.undrew ?_) | (with_reducible refine Ext.grow ?_ _) | (with_reducible refine Ext.drew ?_) | (with_reducible refine Ext.drewN ?_ _) | (with_reducible refine Ext.alloc ?_ _) | (with_reducible assumption) | ((with_reducible refine Ext.setCell ?_ ?_ _); rotate_left; (first | exact Nat.le_refl _ | ((try dsimp only); (try simp only [World.size_alloc, grow_size, World.size_setCell]); omega))))), hsz, Nat.le_refl _⟩
  obtain ⟨f1, f2⟩ := HQW.out k hk
  have x := Ext.alloc (Ext.refl w1) (.cells #[.slice (some ⟨w.heap.size, 0, none⟩) n n] 51)
  exact ⟨(x.cells _ _ hql).trans f1, (x.frozens _ _ hql).trans f2⟩

set_option maxHeartbeats 1000000 in
theorem ris_neg (p q n : Nat) (i : Int) (w : World) (P : Nat → Bool) (h : Rf w p q n P) (hno : i < 0 ∨ (n : Int) ≤ i / 16) (hib : i ≤ 9223372036854775807) :
    Calls Try.prog 16 #[.pointer (some ⟨p, 0, none⟩), .int .i64 i] w fun e w' => e = .returned (.bool false) ∧ w = w' := by
  have h0 := h.c0
  have hlp := h.ltp
  have hbd := h.bd
  by_cases hi : 0 ≤ i
  · obtain ⟨d, hd⟩ : ∃ d, i.tdiv 16 = d := ⟨_, rfl⟩
    have hd2 : d = i / 16 := by rw [← hd]; exact Int.tdiv_eq_ediv_of_nonneg hi
    have hn : ¬ d < (n : Int) := by rcases hno with h1 | h1 <;> omega
    have hdb : 0 ≤ d ∧ d ≤ 9223372036854775807 := by omega
    obtain ⟨hd0, hd1⟩ := hdb
    have hwd : wrap64 d = d := by clear hd hd2 hn h0 hlp; unfold wrap64; omega
    clear h hno hd2 hd0 hd1
    go_enter Try.func16, Try.ntmps16
    go_wp2
    go_ret
    exact ⟨rfl, rfl⟩
  · clear h hno
    go_enter Try.func16, Try.ntmps16
    go_wp2
    go_ret
    exact ⟨rfl, rfl⟩

set_option maxHeartbeats 1000000 in
theorem ris_yes (p q n i j : Nat) (P : Nat → Bool) (w : World) (h : Rf w p q n P) (hi : i < n) (hji : j / 16 = i) :
    Calls Try.prog 16 #[.pointer (some ⟨p, 0, none⟩), .int .i64 (j : Int)] w fun e w' => e = .returned (.bool (P i)) ∧ w = w' := by
  have h0 := h.c0
  have hlp := h.ltp
  have hlq := h.ltq
  have hbd := h.bd
  obtain ⟨hc, _⟩ := h.grans i hi
  obtain ⟨x, hx⟩ : ∃ x : Int, (j : Int) = x := ⟨_, rfl⟩
  have hq : x.tdiv 16 = (i : Int) := by rw [Int.tdiv_eq_ediv_of_nonneg (by omega)]; omega
  have hx0 : 0 ≤ x := by omega
  have hin : (i : Int) < (n : Int) := by omega
  have hi0 : (0 : Int) ≤ (i : Int) := by omega
  have hw : wrap64 (i : Int) = (i : Int) := by unfold wrap64; omega
  rw [hx]
  clear h hx hji
  go_enter Try.func16, Try.ntmps16
  go_wp2
  go_ret
  exact ⟨rfl, rfl⟩


theorem ris_ {p q n : Nat} {P : Nat → Bool} {w : World} (h : Rf w p q n P) (i : Int) (hib : i ≤ 9223372036854775807) :
    Calls Try.prog 16 #[.pointer (some ⟨p, 0, none⟩), .int .i64 i] w fun e w' => e = .returned (.bool (isP n P i)) ∧ w = w' := by
  by_cases hi : 0 ≤ i
  · obtain ⟨j, rfl⟩ := Int.eq_ofNat_of_zero_le hi
    by_cases hn : j / 16 < n
    · have := ris_yes p q n (j / 16) j P w h hn rfl
      have e : isP n P (j : Int) = P (j / 16) := by unfold isP; simp
      rw [e]
      exact this
    · have := ris_neg p q n (j : Int) w P h (.inr (by omega)) hib
      have e : isP n P (j : Int) = false := by unfold isP; rw [Int.toNat_natCast, h.out _ (by omega)]; simp
      rw [e]
      exact this
  · have := ris_neg p q n i w P h (.inl (by omega)) hib
    have e : isP n P i = false := by unfold isP; simp [hi]
    rw [e]
    exact this
set_option maxHeartbeats 1000000 in
theorem rhits_ (p q n : Nat) (P : Nat → Bool) (t : Bool) (b tp a pm ty : Int) (w : World) (h : Rf w p q n P) (hib : b ≤ 9223372036854775807) :
    Calls Try.prog 18 #[.pointer (some ⟨p, 0, none⟩), .agg #[.bool t, .int .i64 b, .int .i64 tp, .int .i64 a, .int .i64 pm, .int .i64 ty]] w fun e w' => e = .returned (.bool (hitsP n P t b tp)) ∧ Ext w w' := by
  have HH := hid h
  obtain ⟨B, hB⟩ : ∃ B, isP n P b = B := ⟨_, rfl⟩
  have HB := hid hB
  have hv : hitsP n P t b tp = (t && (decide (b < tp) && B)) := by unfold hitsP; rw [hB]
  rw [hv]
  clear hv hB h
  by_cases hlt : b < tp <;> cases t
  all_goals (go_enter Try.func18, Try.ntmps18; go_wp2_with (go_at_call 16; (with_reducible refine Calls.mono (ris_ (HH.out.ext (by repeat (first | (with_reducible exact Ext.refl _) | (with_reducible refine Ext.undrew ?_) | (with_reducible refine Ext.grow ?_ _) | (with_reducible refine Ext.drew ?_) | (with_reducible refine Ext.drewN ?_ _) | (with_reducible refine Ext.alloc ?_ _) | (with_reducible assumption) | ((with_reducible refine Ext.setCell ?_ ?_ _); rotate_left; (first | exact Nat.le_refl _ | ((try dsimp only); (try simp only [World.size_alloc, grow_size, World.size_setCell]); omega)))))) b hib) ?_); rw [HB.out]; rintro e w1 ⟨rfl, rfl⟩))
  all_goals go_ret
  all_goals exact ⟨by simp <;> omega, (by repeat (first | (with_reducible exact Ext.refl _) | (with_reducible refine Ext.undrew ?_) | (with_reducible refine Ext.grow ?_ _) | (with_reducible refine Ext.drew ?_) | (with_reducible refine Ext.drewN ?_ _) | (with_reducible refine Ext.alloc ?_ _) | (with_reducible assumption) | ((with_reducible refine Ext.setCell ?_ ?_ _); rotate_left; (first | exact Nat.le_refl _ | ((try dsimp only); (try simp only [World.size_alloc, grow_size, World.size_setCell]); omega)))))⟩

set_option maxHeartbeats 1000000 in
theorem rmany_ (p q n : Nat) (P : Nat → Bool) (w : World) (h : Rf w p q n P) :
    Calls Try.prog 14 #[.pointer (some ⟨p, 0, none⟩)] w fun e w' => e = .returned (.int .i64 (cnt P n : Int)) ∧ w = w' := by
  have h0 := h.c0
  have hlp := h.ltp
  have hlq := h.ltq
  have hbd := h.bd
  have HH := hid h
  clear h
  go_enter Try.func14, Try.ntmps14
  go_wp2
  go_loop [3, 4] (fun s iv => ∃ k : Nat, k ≤ n ∧ iv = .int .i64 (k : Int) ∧ s = .int .i64 (cnt P k : Int)) (fun _ iv => n - (intOf iv).toNat)
  case atStart => exact ⟨0, Nat.zero_le _, rfl, rfl⟩
  case round =>
    obtain ⟨k, hk, rfl, rfl⟩ := hrel
    by_cases hlt : k < n
    · obtain ⟨hc, _⟩ := HH.out.grans k hlt
      have hk0 : (0 : Int) ≤ (k : Int) := by omega
      have hk1 : (k : Int) < (n : Int) := by omega
      have c1 := cnt_le P k
      have HC := hid (show cnt P (k + 1) = cnt P k + (if P k then 1 else 0) from rfl)
      obtain ⟨s, hs⟩ : ∃ s, cnt P k = s := ⟨_, rfl⟩
      rw [hs] at c1 HC ⊢
      clear hs
      cases hp : P k with
      | true =>
        rw [hp] at hc HC
        clear hp
        go_wp2
        go_round
        case rel => exact ⟨k + 1, by omega, by first | rfl | go_num, by rw [HC.out]; first | rfl | go_num⟩
        case measure => first | (simp [intOf]; done) | (simp [intOf]; omega)
      | false =>
        rw [hp] at hc HC
        clear hp
        go_wp2
        go_round
        case rel => exact ⟨k + 1, by omega, by first | rfl | go_num, by rw [HC.out]; first | rfl | go_num⟩
        case measure => first | (simp [intOf]; done) | (simp [intOf]; omega)
    · obtain rfl : k = n := by omega
      go_wp2
      go_ret
      exact ⟨rfl, rfl⟩


end Go.Proofs.Ytgjjimpialgojaa
