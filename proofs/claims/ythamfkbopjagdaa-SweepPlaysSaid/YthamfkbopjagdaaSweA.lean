/- Layer 10: the sweeper. -/
import Derived.Test.YthamfkbopjagdaaMSha
namespace Go.Proofs.Ythamfkbopjagdaa
set_option linter.unusedSimpArgs false
set_option linter.unusedVariables false
open Go.RowKit

/-- The sweeper: its block, the memory's and the map's. -/
structure Sw (w : World) (s q p : Nat) (runs : Bool) (A : Option Addr) (ca : Nat) (L : List Nat) (gone : Nat) : Prop where
  lt : s < w.heap.size
  c0 : w.cell? ⟨s, 0, none⟩ = some (.pointer (some ⟨q, 0, none⟩))
  c1 : w.cell? ⟨s, 1, none⟩ = some (.pointer (some ⟨p, 0, none⟩))
  c2 : w.cell? ⟨s, 2, none⟩ = some (.bool runs)
  c3 : w.cell? ⟨s, 3, none⟩ = some (.slice A L.length ca)
  c4 : w.cell? ⟨s, 4, none⟩ = some (.int .i64 (gone : Int))
  fz : ∀ x, w.frozen? ⟨s, x, none⟩ = false
  rd : RdN w A L
  lc : L.length ≤ ca ∧ (A = none → ca = 0)
  ns : ∀ b o, A = some ⟨b, o, none⟩ → ¬ b = s
  ab : ∀ b o, A = some ⟨b, o, none⟩ → b < w.heap.size
theorem Sw.only {S : Nat → Prop} {w w' : World} {s q p : Nat} {runs : Bool} {A : Option Addr} {ca : Nat} {L : List Nat} {gone : Nat} (h : Sw w s q p runs A ca L gone) (x : Only S w w') (h0 : ¬ S s) (h1 : ∀ b o, A = some ⟨b, o, none⟩ → ¬ S b) : Sw w' s q p runs A ca L gone :=
  ⟨Nat.lt_of_lt_of_le h.lt x.size, (x.cells s _ h.lt h0).trans h.c0, (x.cells s _ h.lt h0).trans h.c1, (x.cells s _ h.lt h0).trans h.c2, (x.cells s _ h.lt h0).trans h.c3, (x.cells s _ h.lt h0).trans h.c4, fun y => (x.frozens s _ h.lt h0).trans (h.fz y), h.rd.only x h1, h.lc, h.ns, fun b o e => Nat.lt_of_lt_of_le (h.ab b o e) x.size⟩
theorem Sw.ext {w w' : World} {s q p : Nat} {runs : Bool} {A : Option Addr} {ca : Nat} {L : List Nat} {gone : Nat} (h : Sw w s q p runs A ca L gone) (x : Ext w w') : Sw w' s q p runs A ca L gone := h.only (Only.ofExt (S := fun _ => False) x) id (fun _ _ _ => id)
/-- One cell of a block turns. -/
theorem cell_set {w : World} {b x : Nat} {u v : Value} (h : w.cell? ⟨b, x, none⟩ = some u) (y : Nat) : (w.setCell ⟨b, x, none⟩ v).cell? ⟨b, y, none⟩ = if y = x then some v else w.cell? ⟨b, y, none⟩ := by
  by_cases e : y = x
  · subst e
    rw [if_pos rfl, cell_setCell_self, h]
    rfl
  · rw [if_neg e, cell_setCell_far _ _ _ _ _ _ (by omega)]
theorem RdN.set {w : World} {A : Option Addr} {L : List Nat} {s x : Nat} {v : Value} (h : RdN w A L) (hn : ∀ b o, A = some ⟨b, o, none⟩ → ¬ b = s) : RdN (w.setCell ⟨s, x, none⟩ v) A L :=
  h.only (Only.setCell (S := (· = s)) (Only.refl _ _) (.inl rfl) v) hn
section
variable {w : World} {s q p : Nat} {runs : Bool} {A : Option Addr} {ca : Nat} {L : List Nat} {gone : Nat}
theorem Sw.setRuns (h : Sw w s q p runs A ca L gone) (r : Bool) : Sw (w.setCell ⟨s, 2, none⟩ (.bool r)) s q p r A ca L gone :=
  ⟨by rw [World.size_setCell]; exact h.lt, by rw [cell_set h.c2]; exact h.c0, by rw [cell_set h.c2]; exact h.c1, by rw [cell_set h.c2]; rfl, by rw [cell_set h.c2]; exact h.c3, by rw [cell_set h.c2]; exact h.c4, fun y => by rw [World.frozen?_setCell]; exact h.fz y, h.rd.set h.ns, h.lc, h.ns, by rw [World.size_setCell]; exact h.ab⟩
theorem Sw.setGone (h : Sw w s q p runs A ca L gone) (k : Nat) : Sw (w.setCell ⟨s, 4, none⟩ (.int .i64 (k : Int))) s q p runs A ca L k :=
  ⟨by rw [World.size_setCell]; exact h.lt, by rw [cell_set h.c4]; exact h.c0, by rw [cell_set h.c4]; exact h.c1, by rw [cell_set h.c4]; exact h.c2, by rw [cell_set h.c4]; exact h.c3, by rw [cell_set h.c4]; rfl, fun y => by rw [World.frozen?_setCell]; exact h.fz y, h.rd.set h.ns, h.lc, h.ns, by rw [World.size_setCell]; exact h.ab⟩
theorem Sw.setLeft (h : Sw w s q p runs A ca L gone) {A' : Option Addr} {ca' : Nat} {L' : List Nat} {k : Nat} (hk : L'.length = k) (hr : RdN w A' L') (hl : L'.length ≤ ca' ∧ (A' = none → ca' = 0)) (hn : ∀ b o, A' = some ⟨b, o, none⟩ → ¬ b = s) (ha : ∀ b o, A' = some ⟨b, o, none⟩ → b < w.heap.size) : Sw (w.setCell ⟨s, 3, none⟩ (.slice A' k ca')) s q p runs A' ca' L' gone :=
  ⟨by rw [World.size_setCell]; exact h.lt, by rw [cell_set h.c3]; exact h.c0, by rw [cell_set h.c3]; exact h.c1, by rw [cell_set h.c3]; exact h.c2, by rw [cell_set h.c3, hk]; rfl, by rw [cell_set h.c3]; exact h.c4, fun y => by rw [World.frozen?_setCell]; exact h.fz y, hr.set hn, hl, hn, by rw [World.size_setCell]; exact ha⟩
end
/-- Is the one of a granule hit? -/
def hitAt (mm : Nat) (P : Nat → Bool) (B : Nat → Int) (T : Nat → Bool) (t : Nat) : Bool := hitsP mm P (getL (bytesAt B (16 * t) 16) (T t)).tag (getL (bytesAt B (16 * t) 16) (T t)).base (getL (bytesAt B (16 * t) 16) (T t)).top
theorem hitAt_tag {mm : Nat} {P : Nat → Bool} {B : Nat → Int} {T : Nat → Bool} {t : Nat} (h : hitAt mm P B T t = true) : T t = true := by
  unfold hitAt hitsP getL tagOf at h
  simp only [Bool.and_eq_true] at h
  exact h.1.1
theorem hitAt_congr {mm : Nat} {P : Nat → Bool} {B : Nat → Int} {T T' : Nat → Bool} {t : Nat} (h : T t = T' t) : hitAt mm P B T t = hitAt mm P B T' t := by
  unfold hitAt
  rw [h]
/-- Tags, when granules from lo up to hi were swept. -/
def swpR (mm : Nat) (P : Nat → Bool) (B : Nat → Int) (T : Nat → Bool) (lo hi : Nat) : Nat → Bool := fun t => T t && !(decide (lo ≤ t ∧ t < hi) && hitAt mm P B T t)
/-- How many of k granules from lo on are hit. -/
def cntR (mm : Nat) (P : Nat → Bool) (B : Nat → Int) (T : Nat → Bool) (lo k : Nat) : Nat := ((List.range k).filter fun j => hitAt mm P B T (lo + j)).length
section
variable (mm : Nat) (P : Nat → Bool) (B : Nat → Int) (T : Nat → Bool) (lo k : Nat)
theorem swpR_zero : swpR mm P B T lo lo = T := by
  funext t
  unfold swpR
  rw [decide_eq_false (by omega), Bool.false_and, Bool.not_false, Bool.and_true]
theorem swpR_at : swpR mm P B T lo (lo + k) (lo + k) = T (lo + k) := by
  unfold swpR
  rw [decide_eq_false (by omega), Bool.false_and, Bool.not_false, Bool.and_true]
theorem swpR_yes (h : hitAt mm P B T (lo + k) = true) : upd1 (swpR mm P B T lo (lo + k)) (lo + k) false = swpR mm P B T lo (lo + (k + 1)) := by
  funext t
  unfold upd1 swpR
  by_cases e : t = lo + k
  · subst e
    rw [if_pos rfl, h, decide_eq_true (by omega)]
    simp
  · rw [if_neg e]
    congr 3
    exact decide_eq_decide.2 (by omega)
theorem swpR_no (h : hitAt mm P B T (lo + k) = false) : swpR mm P B T lo (lo + k) = swpR mm P B T lo (lo + (k + 1)) := by
  funext t
  unfold swpR
  by_cases e : t = lo + k
  · subst e
    rw [h]
    simp
  · congr 3
    exact decide_eq_decide.2 (by omega)
theorem cntR_zero : cntR mm P B T lo 0 = 0 := rfl
theorem cntR_yes (h : hitAt mm P B T (lo + k) = true) : cntR mm P B T lo (k + 1) = cntR mm P B T lo k + 1 := by
  unfold cntR
  rw [List.range_succ, List.filter_append, List.length_append]
  simp [h]
theorem cntR_no (h : hitAt mm P B T (lo + k) = false) : cntR mm P B T lo (k + 1) = cntR mm P B T lo k := by
  unfold cntR
  rw [List.range_succ, List.filter_append, List.length_append]
  simp [h]
theorem cntR_le : cntR mm P B T lo k ≤ k := by
  unfold cntR
  exact Nat.le_trans (List.length_filter_le _ _) (by simp)
end
set_option maxRecDepth 100000 in
set_option maxHeartbeats 4000000 in
theorem swruns (s q p : Nat) (runs : Bool) (A : Option Addr) (ca : Nat) (L : List Nat) (gone : Nat) (w : World) (h : Sw w s q p runs A ca L gone) : Calls Try.prog 26 #[.pointer (some ⟨s, 0, none⟩)] w fun e w' => e = .returned (.bool runs) ∧ w = w' := by
  have c2 := h.c2
  have hlt := h.lt
  clear h
  go_enter Try.func26, Try.ntmps26
  go_wp2
  go_ret
  exact ⟨rfl, rfl⟩
set_option maxRecDepth 100000 in
set_option maxHeartbeats 4000000 in
theorem swleft (s q p : Nat) (runs : Bool) (A : Option Addr) (ca : Nat) (L : List Nat) (gone : Nat) (w : World) (h : Sw w s q p runs A ca L gone) : Calls Try.prog 28 #[.pointer (some ⟨s, 0, none⟩)] w fun e w' => e = .returned (.int .i64 (L.length : Int)) ∧ w = w' := by
  have c3 := h.c3
  have hlt := h.lt
  clear h
  go_enter Try.func28, Try.ntmps28
  go_wp2
  go_ret
  exact ⟨rfl, rfl⟩
set_option maxRecDepth 100000 in
set_option maxHeartbeats 4000000 in
theorem swgone (s q p : Nat) (runs : Bool) (A : Option Addr) (ca : Nat) (L : List Nat) (gone : Nat) (w : World) (h : Sw w s q p runs A ca L gone) : Calls Try.prog 30 #[.pointer (some ⟨s, 0, none⟩)] w fun e w' => e = .returned (.int .i64 (gone : Int)) ∧ w = w' := by
  have c4 := h.c4
  have hlt := h.lt
  clear h
  go_enter Try.func30, Try.ntmps30
  go_wp2
  go_ret
  exact ⟨rfl, rfl⟩
set_option maxRecDepth 100000 in
set_option maxHeartbeats 4000000 in
theorem swnew_ (q p : Nat) (w : World) : Calls Try.prog 14 #[.pointer (some ⟨q, 0, none⟩), .pointer (some ⟨p, 0, none⟩)] w fun e w' => ∃ s, e = .returned (.pointer (some ⟨s, 0, none⟩)) ∧ Hid (Sw w' s q p false none 0 [] 0) ∧ Hid (Ext w w') ∧ Hid (w.heap.size ≤ s) := by
  go_enter Try.func14, Try.ntmps14
  go_wp2
  go_ret
  exact ⟨_, rfl, hid ⟨by simp, by simp [go_sem], by simp [go_sem], by simp [go_sem], by simp [go_sem], by simp [go_sem], fun y => by simp [go_sem], fun h => absurd h (by simp), ⟨Nat.le_refl _, fun _ => rfl⟩, fun b o e => (by cases e), fun b o e => (by cases e)⟩, hid (Ext.alloc (Ext.refl _) _), hid (Nat.le_refl _)⟩

end Go.Proofs.Ythamfkbopjagdaa
