/- MhExt: ExtA ExtB ExtC ExtD ExtE ExtF ExtG ExtI ExtJ ExtK ExtL ExtM ExtN ExtO ExtP ExtQ ExtR ExtS -/
import Derived.Test.YtoeiemeffiiidaaDoorMhSiz
import Derived.Laws.IdiomCopy
import Derived.Deep.AppendSrc
import Derived.Lib.AppendZeros
import Derived.Lib.Overlaps
import Derived.Laws.Externs
import Derived.Lib.AppendZerosOnto
import Derived.Great.BuildSlice
import Derived.ChangeKeysEq
namespace Go.Proofs.YtoeiemeffiiidaaDoor
set_option maxRecDepth 100000
set_option linter.unusedSimpArgs false
set_option linter.unusedVariables false
open Go.RowKit

/-- From where up to where. -/
structure Pr where
  lo : Int
  hi : Int
instance : Inhabited Pr := ⟨⟨0, 0⟩⟩
def Pr.cells (p : Pr) : List Value := [.int .i64 p.lo, .int .i64 p.hi]
def prList (l : List Pr) : List Value := l.flatMap Pr.cells
theorem prList_cons (p : Pr) (l : List Pr) : prList (p :: l) = p.cells ++ prList l := by simp [prList]
theorem prList_length (l : List Pr) : (prList l).length = l.length * 2 := by
  induction l with
  | nil => rfl
  | cons h l ih => rw [prList_cons, List.length_append, ih, List.length_cons]; simp [Pr.cells]; omega
theorem prList_append (l m : List Pr) : prList (l ++ m) = prList l ++ prList m := by simp [prList]
theorem prList_one (p : Pr) : prList [p] = p.cells := by simp [prList]
theorem prList_drop (l : List Pr) (k : Nat) : (prList l).drop (k * 2) = prList (l.drop k) := by
  induction l generalizing k with
  | nil => simp [prList]
  | cons h l ih =>
    cases k with
    | zero => simp
    | succ k =>
      rw [List.drop_succ_cons, ← ih k, prList_cons, show (k + 1) * 2 = h.cells.length + k * 2 by simp [Pr.cells]; omega, List.drop_length_add_append]
theorem prList_take (l : List Pr) (k : Nat) : (prList l).take (k * 2) = prList (l.take k) := by
  induction l generalizing k with
  | nil => simp [prList]
  | cons h l ih =>
    cases k with
    | zero => simp [prList]
    | succ k =>
      rw [List.take_succ_cons, prList_cons, prList_cons, ← ih k, show (k + 1) * 2 = h.cells.length + k * 2 by simp [Pr.cells]; omega, List.take_length_add_append]
theorem prList_at (l : List Pr) (i j : Nat) (hi : i < l.length) (hj : j < 2) : (prList l)[i * 2 + j]? = (l[i]).cells[j]? := by
  induction l generalizing i with
  | nil => simp at hi
  | cons h l ih =>
    rw [prList_cons]
    cases i with
    | zero => rw [Nat.zero_mul, Nat.zero_add, List.getElem?_append_left (by simpa [Pr.cells] using hj)]; rfl
    | succ i =>
      rw [List.getElem?_append_right (by simp [Pr.cells]; omega), show (i + 1) * 2 + j - h.cells.length = i * 2 + j by simp [Pr.cells]; omega, ih i (by simpa using hi)]
      rfl
theorem pr_one (p : Pr) : ∀ u ∈ p.cells, u.oneCell' = true := by
  intro u hu
  simp only [Pr.cells, List.mem_cons, List.not_mem_nil, or_false] at hu
  rcases hu with rfl | rfl <;> rfl
theorem prs_one (l : List Pr) : ∀ u ∈ prList l, u.oneCell' = true := by
  intro u hu
  obtain ⟨p, _, hp⟩ := List.mem_flatMap.1 hu
  exact pr_one p u hp
/-- A slice of runs, to be read. -/
def RdP (w : World) (A : Option Addr) (l : List Pr) : Prop := 0 < l.length → ∃ b o, A = some ⟨b, o, none⟩ ∧ b < w.heap.size ∧ ∀ j u, (prList l)[j]? = some u → w.cell? ⟨b, o + j, none⟩ = some u
theorem RdP.only {S : Nat → Prop} {w w' : World} {A : Option Addr} {l : List Pr} (h : RdP w A l) (x : Only S w w') (hn : ∀ b o, A = some ⟨b, o, none⟩ → ¬ S b) : RdP w' A l := fun h0 => by
  obtain ⟨b, o, e, hb, hc⟩ := h h0
  exact ⟨b, o, e, Nat.lt_of_lt_of_le hb x.size, fun j u hj => (x.cells b _ hb (hn b o e)).trans (hc j u hj)⟩
theorem RdP.ext {w w' : World} {A : Option Addr} {l : List Pr} (h : RdP w A l) (x : Ext w w') : RdP w' A l := h.only (Only.ofExt (S := fun _ => False) x) (fun _ _ _ => id)
theorem RdP.two {w : World} {A : Option Addr} {l : List Pr} (h : RdP w A l) {k : Nat} (hk : k < l.length) : ∃ b o, A = some ⟨b, o, none⟩ ∧ b < w.heap.size ∧ w.cell? ⟨b, o + k * 2, none⟩ = some (.int .i64 (l[k]).lo) ∧ w.cell? ⟨b, o + k * 2 + 1, none⟩ = some (.int .i64 (l[k]).hi) := by
  obtain ⟨b, o, e, hb, hc⟩ := h (by omega)
  refine ⟨b, o, e, hb, ?_, ?_⟩
  · exact hc (k * 2 + 0) _ (by rw [prList_at l k 0 hk (by omega)]; rfl)
  · rw [Nat.add_assoc]; exact hc (k * 2 + 1) _ (by rw [prList_at l k 1 hk (by omega)]; rfl)
theorem ownsAt.rdP {w : World} {base n c : Nat} {A : Option Addr} {l : List Pr} (h : ownsAt w base 95 2 (.slice A n c) n (prList l)) (hn : l.length = n) : RdP w A l := fun h0 => by
  obtain ⟨g, o, e, _, hg, hc, _⟩ := h.at_ rfl (by omega)
  exact ⟨g, _, e, hg, hc⟩
/-- What is free, at block q. -/
def Fr (w : World) (q base : Nat) (fr to : Int) (v : Value) (l : List Pr) : Prop :=
  q < w.heap.size ∧ (w.cell? ⟨q, 0, none⟩ = some (.int .i64 fr) ∧ w.cell? ⟨q, 1, none⟩ = some (.int .i64 to) ∧ w.cell? ⟨q, 2, none⟩ = some v) ∧
  (w.frozen? ⟨q, 0, none⟩ = false ∧ w.frozen? ⟨q, 1, none⟩ = false ∧ w.frozen? ⟨q, 2, none⟩ = false) ∧ ownsAt w base 95 2 v l.length (prList l) ∧ base ≤ q ∧ ∀ g, v.ownBlock = some g → ¬ g = q
theorem Fr.only {S : Nat → Prop} {w w' : World} {q base : Nat} {fr to : Int} {v : Value} {l : List Pr} (h : Fr w q base fr to v l) (x : Only S w w') (h1 : ¬ S q) (h2 : ∀ g, v.ownBlock = some g → ¬ S g) : Fr w' q base fr to v l := by
  obtain ⟨hq, ⟨a0, a1, a2⟩, ⟨f0, f1, f2⟩, ho, hb, hn⟩ := h
  exact ⟨Nat.lt_of_lt_of_le hq x.size, ⟨(x.cells q 0 hq h1).trans a0, (x.cells q 1 hq h1).trans a1, (x.cells q 2 hq h1).trans a2⟩, ⟨(x.frozens q 0 hq h1).trans f0, (x.frozens q 1 hq h1).trans f1, (x.frozens q 2 hq h1).trans f2⟩, ho.only x h2, hb, hn⟩
theorem Fr.ext {w w' : World} {q base : Nat} {fr to : Int} {v : Value} {l : List Pr} (h : Fr w q base fr to v l) (x : Ext w w') : Fr w' q base fr to v l := h.only (Only.ofExt (S := fun _ => False) x) id (fun _ _ => id)
/-- All runs are within bounds. -/
def okF (l : List Pr) : Prop := ∀ x ∈ l, 0 ≤ x.lo ∧ x.lo ≤ x.hi ∧ x.hi ≤ 16777216
def Pr.len (p : Pr) : Int := p.hi - p.lo
def sumP (l : List Pr) : Int := (l.map Pr.len).sum
def mostP (l : List Pr) : Int := l.foldl (fun m p => max m p.len) 0
theorem sumP_one (l : List Pr) (p : Pr) : sumP (l ++ [p]) = sumP l + p.len := by
  unfold sumP
  rw [List.map_append, List.sum_append]
  simp
theorem mostP_one (l : List Pr) (p : Pr) : mostP (l ++ [p]) = max (mostP l) p.len := by simp [mostP]
theorem okF.len {l : List Pr} (h : okF l) {x : Pr} (hx : x ∈ l) : 0 ≤ x.len ∧ x.len ≤ 16777216 := by have := h x hx; unfold Pr.len; omega
theorem sumP_bound {l : List Pr} (h : okF l) : 0 ≤ sumP l ∧ sumP l ≤ 16777216 * (l.length : Int) := by
  induction l with
  | nil => simp [sumP]
  | cons x l ih =>
    have h1 := ih (fun y hy => h y (List.mem_cons_of_mem _ hy))
    have h2 := h.len (List.mem_cons_self (a := x) (l := l))
    have : sumP (x :: l) = x.len + sumP l := by simp [sumP]
    rw [this, List.length_cons]
    omega
theorem okF.take {l : List Pr} (h : okF l) (k : Nat) : okF (l.take k) := fun x hx => h x (List.mem_of_mem_take hx)
/-- A granule's multiple? -/
def g16 (n : Int) : Bool := decide (n.tmod 16 = 0)
set_option maxRecDepth 100000 in
set_option maxHeartbeats 4000000 in
theorem gran1_ (n : Int) (w : World) : Calls Tryd.prog 71 #[.int .i64 n] w fun e w' => e = .returned (.bool (!g16 n)) ∧ w' = w := by
  go_enter Tryd.func71, Tryd.ntmps71
  go_wp2
  go_ret
  exact ⟨by show Ending.returned (Value.bool (n.tmod 16 != 0)) = _; unfold g16; by_cases h : n.tmod 16 = 0 <;> simp [h], rfl⟩
set_option maxRecDepth 100000 in
set_option maxHeartbeats 4000000 in
theorem idxG_ (A : Option Addr) (c : Nat) (zs : List Int) (w : World) (hz : SlAt w A (zs.map (Value.int .i64))) (hl : zs.length ≤ 1000000) :
    Calls Tryd.prog 76 #[.slice A zs.length c, .func (.func 71) #[] #[]] w fun e w' => ∃ r : Int, e = .returned (.int .i64 r) ∧ decide (0 ≤ r) = !zs.all g16 ∧ Ext w w' := by
  have HZ := hid hz
  clear hz
  have hfn : ∀ args w', Sem.run Tryd.prog (callFunc 71 args) w' = .ok (.enter 71 args) w' := fun args w' => enterOf Tryd.func71 (by kernel_rfl) (by kernel_rfl) _ _
  go_enter Tryd.func76, Tryd.ntmps76
  go_wp2
  go_loopw [8] (fun i wr => ∃ k : Nat, k ≤ zs.length ∧ i = .int .i64 k ∧ Hid (∀ j (h : j < zs.length), j < k → g16 zs[j] = true) ∧ Ext w wr) (fun i _ => zs.length - (intOf i).toNat)
  case atStart => exact ⟨0, Nat.zero_le _, rfl, hid (fun j _ h => absurd h (by omega)), (by repeat (first | (with_reducible exact Ext.refl _) | (with_reducible refine Ext.undrew ?_) | (with_reducible refine Ext.grow ?_ _) | (with_reducible refine Ext.drew ?_) | (with_reducible refine Ext.drewN ?_ _) | (with_reducible refine Ext.alloc ?_ _) | (with_reducible assumption) | ((with_reducible refine Ext.setCell ?_ ?_ _); rotate_left; (first | exact Nat.le_refl _ | ((try dsimp only); (try simp only [World.size_alloc, grow_size, World.size_setCell]); omega)))))⟩
  case round =>
    obtain ⟨k, hk, rfl, HP, hx⟩ := hrel
    by_cases hlt : k < zs.length
    · obtain ⟨b, o, rfl, hb, hcell0⟩ := HZ.out (by rw [List.length_map]; omega)
      have hcell : wr.cell? ⟨b, o + k, none⟩ = some (.int .i64 zs[k]) := by
        rw [hx.cells b _ hb, hcell0 k (by rw [List.length_map]; omega), List.getElem_map]
      clear hcell0
      have hk1 : (k : Int) < (zs.length : Int) := by omega
      have hk0 : (0 : Int) ≤ (k : Int) := by omega
      have hk2 : k + 1 ≤ zs.length := by omega
      cases hg : g16 zs[k] with
      | false =>
        go_wp2_with (refine (gran1_ zs[k] _).mono ?_; rw [hg]; rintro e w1 ⟨rfl, rfl⟩)
        go_ret
        refine ⟨k, rfl, ?_, (by repeat (first | (with_reducible exact Ext.refl _) | (with_reducible refine Ext.undrew ?_) | (with_reducible refine Ext.grow ?_ _) | (with_reducible refine Ext.drew ?_) | (with_reducible refine Ext.drewN ?_ _) | (with_reducible refine Ext.alloc ?_ _) | (with_reducible assumption) | ((with_reducible refine Ext.setCell ?_ ?_ _); rotate_left; (first | exact Nat.le_refl _ | ((try dsimp only); (try simp only [World.size_alloc, grow_size, World.size_setCell]); omega)))))⟩
        have : zs.all g16 = false := by
          rw [List.all_eq_false]
          exact ⟨zs[k], List.getElem_mem _, by rw [hg]; decide⟩
        rw [this]
        exact decide_eq_true hk0
      | true =>
        go_wp2_with (refine (gran1_ zs[k] _).mono ?_; rw [hg]; rintro e w1 ⟨rfl, rfl⟩)
        go_roundw
        case rel => exact ⟨k + 1, hk2, by go_num, hid (fun j h hj => by
          rcases Nat.lt_or_ge j k with h1 | h1
          · exact HP.out j h h1
          · obtain rfl : j = k := by omega
            exact hg), (by repeat (first | (with_reducible exact Ext.refl _) | (with_reducible refine Ext.undrew ?_) | (with_reducible refine Ext.grow ?_ _) | (with_reducible refine Ext.drew ?_) | (with_reducible refine Ext.drewN ?_ _) | (with_reducible refine Ext.alloc ?_ _) | (with_reducible assumption) | ((with_reducible refine Ext.setCell ?_ ?_ _); rotate_left; (first | exact Nat.le_refl _ | ((try dsimp only); (try simp only [World.size_alloc, grow_size, World.size_setCell]); omega)))))⟩
        case measure => simp [intOf]; omega
    · obtain rfl : k = zs.length := by omega
      have hk1 : ¬ (zs.length : Int) < (zs.length : Int) := by omega
      go_wp2
      go_ret
      refine ⟨-1, rfl, ?_, hx⟩
      have : zs.all g16 = true := by
        rw [List.all_eq_true]
        intro x hxm
        obtain ⟨j, hj, rfl⟩ := List.mem_iff_getElem.1 hxm
        exact HP.out j hj hj
      rw [this]
      decide
set_option maxRecDepth 100000 in
set_option maxHeartbeats 4000000 in
theorem hasG_ (A : Option Addr) (c : Nat) (zs : List Int) (w : World) (hz : SlAt w A (zs.map (Value.int .i64))) (hl : zs.length ≤ 1000000) :
    Calls Tryd.prog 70 #[.slice A zs.length c, .func (.func 71) #[] #[]] w fun e w' => e = .returned (.bool (!zs.all g16)) ∧ Ext w w' := by
  have H := hid (idxG_ A c zs w hz hl)
  clear hz
  go_enter Tryd.func70, Tryd.ntmps70
  go_wp2_with (go_at_call 76; refine H.out.mono ?_; rintro e w1 ⟨r, rfl, hr, hx⟩)
  go_ret
  exact ⟨rfl, hx⟩
theorem gran_ (A : Option Addr) (c : Nat) (zs : List Int) (w : World) (hz : SlAt w A (zs.map (Value.int .i64))) (hl : zs.length ≤ 1000000) :
    Calls Tryd.prog 51 #[.slice A zs.length c] w fun e w' => e = .returned (.bool (zs.all g16)) ∧ Ext w w' := by
  have H := hid (hasG_ A c zs w hz hl)
  clear hz
  go_enter Tryd.func51, Tryd.ntmps51
  go_wp2_with (go_at_call 70; refine H.out.mono ?_; rintro e w1 ⟨rfl, hx⟩)
  go_ret
  exact ⟨rfl, hx⟩
set_option maxRecDepth 100000 in
set_option maxHeartbeats 4000000 in
theorem len_ (p : Pr) (d : Int) (hd : wrap64 (p.hi - p.lo) = d) (w : World) : Calls Tryd.prog 66 #[.agg #[.int .i64 p.lo, .int .i64 p.hi]] w fun e w' => e = .returned (.int .i64 d) ∧ Ext w w' := by
  subst hd
  go_enter Tryd.func66, Tryd.ntmps66
  go_wp2
  go_ret
  exact ⟨rfl, (by repeat (first | (with_reducible exact Ext.refl _) | (with_reducible refine Ext.undrew ?_) | (with_reducible refine Ext.grow ?_ _) | (with_reducible refine Ext.drew ?_) | (with_reducible refine Ext.drewN ?_ _) | (with_reducible refine Ext.alloc ?_ _) | (with_reducible assumption) | ((with_reducible refine Ext.setCell ?_ ?_ _); rotate_left; (first | exact Nat.le_refl _ | ((try dsimp only); (try simp only [World.size_alloc, grow_size, World.size_setCell]); omega)))))⟩
end Go.Proofs.YtoeiemeffiiidaaDoor

namespace Go.Proofs.YtoeiemeffiiidaaDoor
set_option maxRecDepth 100000
set_option linter.unusedSimpArgs false
set_option linter.unusedVariables false
open Go.RowKit

theorem wrapP {x : Int} (h0 : -9999999999999999 ≤ x) (h1 : x ≤ 9999999999999999) : wrap64 x = x := by simp [wrap64]; omega
theorem ownsAt_new (w : World) (T : TypeId) (p : Pr) (base n : Nat) (hn : n = w.heap.size) (hb : base ≤ n) : ownsAt (w.alloc (.cells #[.int .i64 p.lo, .int .i64 p.hi] T)) base T 2 (.slice (some ⟨n, 0, none⟩) 1 1) 1 (prList [p]) := by
  subst hn
  exact ⟨by rw [prList_length]; rfl, .inr ⟨w.heap.size, 0, 1, #[.int .i64 p.lo, .int .i64 p.hi], by simp, hb, by show (w.heap.push _)[w.heap.size]? = _; simp, Nat.le_refl _, by unfold maxLen; omega, .inr rfl, rfl⟩⟩
set_option maxRecDepth 100000 in
set_option maxHeartbeats 4000000 in
theorem enew_ (fr to : Int) (w : World) (hg : [fr, to].all g16 = true) (h0 : 0 ≤ fr) (h1 : fr < to) (h2 : to ≤ 16777216) :
    Calls Tryd.prog 28 #[.int .i64 fr, .int .i64 to] w fun e w' => ∃ b v, e = .returned (.pointer (some ⟨b, 0, none⟩)) ∧ w.heap.size ≤ b ∧ Ext w w' ∧ Fr w' b w.heap.size fr to v [Pr.mk fr to] := by
  have k0 : ¬ fr < 0 := by omega
  have k1 : ¬ to < fr := by omega
  have k2 : ¬ (16777216 : Int) < to := by omega
  go_enter Tryd.func28, Tryd.ntmps28
  go_upto_region 3 with (go_at_call 51; refine (gran_ (some ⟨w.heap.size, 0, none⟩) 2 [fr, to] _ (slAtNew w [.int .i64 fr, .int .i64 to] _) (by simp)).mono ?_; rw [hg]; rintro e w1 ⟨rfl, hx1⟩)
  have hx : Ext w w1 := (Ext.alloc (Ext.refl w) _).trans hx1
  clear hx1
  go_wp2
  go_ret
  refine ⟨w1.heap.size, .slice (some ⟨w1.heap.size + 1, 0, none⟩) 1 1, rfl, hx.size, ?e, ?_⟩
  case e => exact hx.trans (by repeat (first | (with_reducible exact Ext.refl _) | (with_reducible refine Ext.undrew ?_) | (with_reducible refine Ext.grow ?_ _) | (with_reducible refine Ext.drew ?_) | (with_reducible refine Ext.drewN ?_ _) | (with_reducible refine Ext.alloc ?_ _) | (with_reducible assumption) | ((with_reducible refine Ext.setCell ?_ ?_ _); rotate_left; (first | exact Nat.le_refl _ | ((try dsimp only); (try simp only [World.size_alloc, grow_size, World.size_setCell]); omega)))))
  refine ⟨by simp; omega, ⟨by simp [go_sem], by simp [go_sem], by simp [go_sem]⟩, ⟨by simp [go_sem], by simp [go_sem], by simp [go_sem]⟩, ?_, hx.size, fun g hg => by simp [Value.ownBlock] at hg; omega⟩
  exact ownsAt_new _ 95 ⟨fr, to⟩ w.heap.size (w1.heap.size + 1) (by simp) (by have := hx.size; omega)
theorem enew0_ (fr to : Int) (w : World) (hg : [fr, to].all g16 = true) (h0 : 0 ≤ fr) (h1 : fr = to) (h2 : to ≤ 16777216) :
    Calls Tryd.prog 28 #[.int .i64 fr, .int .i64 to] w fun e w' => ∃ b, e = .returned (.pointer (some ⟨b, 0, none⟩)) ∧ w.heap.size ≤ b ∧ Ext w w' ∧ Fr w' b w.heap.size fr to (.slice none 0 0) [] := by
  have k0 : ¬ fr < 0 := by omega
  have k1 : ¬ to < fr := by omega
  have k3 : ¬ fr < to := by omega
  have k2 : ¬ (16777216 : Int) < to := by omega
  clear h1
  go_enter Tryd.func28, Tryd.ntmps28
  go_upto_region 3 with (go_at_call 51; refine (gran_ (some ⟨w.heap.size, 0, none⟩) 2 [fr, to] _ (slAtNew w [.int .i64 fr, .int .i64 to] _) (by simp)).mono ?_; rw [hg]; rintro e w1 ⟨rfl, hx1⟩)
  have hx : Ext w w1 := (Ext.alloc (Ext.refl w) _).trans hx1
  clear hx1
  go_wp2
  go_ret
  exact ⟨w1.heap.size, rfl, hx.size, hx.trans (by repeat (first | (with_reducible exact Ext.refl _) | (with_reducible refine Ext.undrew ?_) | (with_reducible refine Ext.grow ?_ _) | (with_reducible refine Ext.drew ?_) | (with_reducible refine Ext.drewN ?_ _) | (with_reducible refine Ext.alloc ?_ _) | (with_reducible assumption) | ((with_reducible refine Ext.setCell ?_ ?_ _); rotate_left; (first | exact Nat.le_refl _ | ((try dsimp only); (try simp only [World.size_alloc, grow_size, World.size_setCell]); omega))))), by simp, ⟨by simp [go_sem], by simp [go_sem], by simp [go_sem]⟩, ⟨by simp [go_sem], by simp [go_sem], by simp [go_sem]⟩, ownsAt_nil _ _ _ _, hx.size, (fun g h => by cases h)⟩
set_option maxRecDepth 100000 in
set_option maxHeartbeats 4000000 in
theorem enew_no1 (fr to : Int) (w : World) (hg : [fr, to].all g16 = false) :
    Calls Tryd.prog 28 #[.int .i64 fr, .int .i64 to] w fun e w' => e = .returned (.pointer none) ∧ Ext w w' := by
  go_enter Tryd.func28, Tryd.ntmps28
  go_wp2_with (go_at_call 51; refine (gran_ (some ⟨w.heap.size, 0, none⟩) 2 [fr, to] _ (slAtNew w [.int .i64 fr, .int .i64 to] _) (by simp)).mono ?_; rw [hg]; rintro e w1 ⟨rfl, hx1⟩)
  go_ret
  exact ⟨rfl, (Ext.alloc (Ext.refl w) _).trans hx1⟩
set_option maxRecDepth 100000 in
set_option maxHeartbeats 4000000 in
theorem enew_no2 (fr to : Int) (w : World) (hg : [fr, to].all g16 = true) (k0 : fr < 0) :
    Calls Tryd.prog 28 #[.int .i64 fr, .int .i64 to] w fun e w' => e = .returned (.pointer none) ∧ Ext w w' := by
  go_enter Tryd.func28, Tryd.ntmps28
  go_wp2_with (go_at_call 51; refine (gran_ (some ⟨w.heap.size, 0, none⟩) 2 [fr, to] _ (slAtNew w [.int .i64 fr, .int .i64 to] _) (by simp)).mono ?_; rw [hg]; rintro e w1 ⟨rfl, hx1⟩)
  go_ret
  exact ⟨rfl, (Ext.alloc (Ext.refl w) _).trans hx1⟩
set_option maxRecDepth 100000 in
set_option maxHeartbeats 4000000 in
theorem enew_no3 (fr to : Int) (w : World) (hg : [fr, to].all g16 = true) (h0 : 0 ≤ fr) (k1 : to < fr) :
    Calls Tryd.prog 28 #[.int .i64 fr, .int .i64 to] w fun e w' => e = .returned (.pointer none) ∧ Ext w w' := by
  have k0 : ¬ fr < 0 := by omega
  go_enter Tryd.func28, Tryd.ntmps28
  go_wp2_with (go_at_call 51; refine (gran_ (some ⟨w.heap.size, 0, none⟩) 2 [fr, to] _ (slAtNew w [.int .i64 fr, .int .i64 to] _) (by simp)).mono ?_; rw [hg]; rintro e w1 ⟨rfl, hx1⟩)
  go_ret
  exact ⟨rfl, (Ext.alloc (Ext.refl w) _).trans hx1⟩
set_option maxRecDepth 100000 in
set_option maxHeartbeats 4000000 in
theorem enew_no4 (fr to : Int) (w : World) (hg : [fr, to].all g16 = true) (h0 : 0 ≤ fr) (h1 : fr ≤ to) (k2 : (16777216 : Int) < to) :
    Calls Tryd.prog 28 #[.int .i64 fr, .int .i64 to] w fun e w' => e = .returned (.pointer none) ∧ Ext w w' := by
  have k0 : ¬ fr < 0 := by omega
  have k1 : ¬ to < fr := by omega
  go_enter Tryd.func28, Tryd.ntmps28
  go_wp2_with (go_at_call 51; refine (gran_ (some ⟨w.heap.size, 0, none⟩) 2 [fr, to] _ (slAtNew w [.int .i64 fr, .int .i64 to] _) (by simp)).mono ?_; rw [hg]; rintro e w1 ⟨rfl, hx1⟩)
  go_ret
  exact ⟨rfl, (Ext.alloc (Ext.refl w) _).trans hx1⟩
set_option maxRecDepth 100000 in
set_option maxHeartbeats 4000000 in
theorem eall_ (q base : Nat) (fr to : Int) (v : Value) (l : List Pr) (w : World) (h : Fr w q base fr to v l) (hl : l.length ≤ 10000000) (ho : okF l) : Calls Tryd.prog 44 #[.pointer (some ⟨q, 0, none⟩)] w fun e w' => e = .returned (.int .i64 (sumP l)) ∧ Ext w w' := by
  obtain ⟨A, ca, rfl, hca, _⟩ := h.2.2.2.1.shape
  have HR := hid (h.2.2.2.1.rdP rfl)
  obtain ⟨hq, ⟨_, _, a2⟩, _, _, _⟩ := h
  have HO := hid ho
  clear ho
  go_enter Tryd.func44, Tryd.ntmps44
  go_wp2
  go_loopw [3, 11] (fun s i wr => ∃ k : Nat, k ≤ l.length ∧ s = .int .i64 (sumP (l.take k)) ∧ i = .int .i64 k ∧ Ext w wr) (fun _ i _ => l.length - (intOf i).toNat)
  case atStart => exact ⟨0, Nat.zero_le _, rfl, rfl, (by repeat (first | (with_reducible exact Ext.refl _) | (with_reducible refine Ext.undrew ?_) | (with_reducible refine Ext.grow ?_ _) | (with_reducible refine Ext.drew ?_) | (with_reducible refine Ext.drewN ?_ _) | (with_reducible refine Ext.alloc ?_ _) | (with_reducible assumption) | ((with_reducible refine Ext.setCell ?_ ?_ _); rotate_left; (first | exact Nat.le_refl _ | ((try dsimp only); (try simp only [World.size_alloc, grow_size, World.size_setCell]); omega)))))⟩
  case round =>
    obtain ⟨k, hk, rfl, rfl, hx⟩ := hrel
    by_cases hlt : k < l.length
    · obtain ⟨b, o, rfl, hb, c0, c1⟩ := (HR.out.ext hx).two hlt
      have hk1 : (k : Int) < (l.length : Int) := by omega
      have hk0 : (0 : Int) ≤ (k : Int) := by omega
      have hk2 : k + 1 ≤ l.length := by omega
      have hx1 := HO.out _ (List.getElem_mem hlt)
      have hbd := sumP_bound (HO.out.take k)
      have hkl : ((l.take k).length : Int) ≤ 10000000 := by rw [List.length_take]; omega
      have hsucc : l.take (k + 1) = l.take k ++ [l[k]] := List.take_succ_eq_append_getElem hlt
      obtain ⟨xl, hxl⟩ : ∃ x, (l[k]).lo = x := ⟨_, rfl⟩
      obtain ⟨xh, hxh⟩ : ∃ x, (l[k]).hi = x := ⟨_, rfl⟩
      have hle : (l[k]).len = xh - xl := by unfold Pr.len; rw [hxl, hxh]
      rw [hxl] at c0 hx1
      rw [hxh] at c1 hx1
      obtain ⟨d, hde⟩ : ∃ x, xh - xl = x := ⟨_, rfl⟩
      have hd : wrap64 (xh - xl) = d := by rw [hde]; exact wrapP (by omega) (by omega)
      rw [hde] at hle
      have HD := hid hd
      have hd0 : 0 ≤ d ∧ d ≤ 16777216 := by omega
      have HS : Hid (sumP (l.take (k + 1)) = sumP (l.take k) + d) := hid (by rw [hsucc, sumP_one, hle])
      obtain ⟨s, hs⟩ : ∃ x, sumP (l.take k) = x := ⟨_, rfl⟩
      rw [hs] at HS hbd ⊢
      have hws : wrap64 (s + d) = s + d := wrapP (by omega) (by omega)
      clear hd hde hxl hxh hsucc hle hbd hkl hs hx1 hd0
      go_wp2_with (go_at_call 66; refine (len_ ⟨xl, xh⟩ d HD.out _).mono ?_; rintro e w1 ⟨rfl, hy⟩; obtain ⟨dd, rfl⟩ := hy.grown; clear hy)
      go_roundw
      case rel => exact ⟨k + 1, hk2, by rw [HS.out, hws], by go_num, (by repeat (first | (with_reducible exact Ext.refl _) | (with_reducible refine Ext.undrew ?_) | (with_reducible refine Ext.grow ?_ _) | (with_reducible refine Ext.drew ?_) | (with_reducible refine Ext.drewN ?_ _) | (with_reducible refine Ext.alloc ?_ _) | (with_reducible assumption) | ((with_reducible refine Ext.setCell ?_ ?_ _); rotate_left; (first | exact Nat.le_refl _ | ((try dsimp only); (try simp only [World.size_alloc, grow_size, World.size_setCell]); omega)))))⟩
      case measure => simp [intOf]; omega
    · obtain rfl : k = l.length := by omega
      have hk1 : ¬ (l.length : Int) < (l.length : Int) := by omega
      go_wp2
      go_ret
      exact ⟨by first | rfl | rw [List.take_length], hx⟩
end Go.Proofs.YtoeiemeffiiidaaDoor

namespace Go.Proofs.YtoeiemeffiiidaaDoor
set_option maxRecDepth 100000
set_option linter.unusedSimpArgs false
set_option linter.unusedVariables false
open Go.RowKit

theorem ownsAt.addr {w : World} {base : Nat} {e : TypeId} {size n c : Nat} {a : Addr} {v : Value} {xs : List Value} (h : ownsAt w base e size v n xs) (hv : v = .slice (some a) n c) : ∃ g o, a = ⟨g, o, none⟩ := by
  rcases h.2 with ⟨h1, _⟩ | ⟨g, o, cap, cur, hv2, _⟩
  · rw [hv] at h1; cases h1
  · rw [hv] at hv2
    simp only [Value.slice.injEq, Option.some.injEq] at hv2
    exact ⟨_, _, hv2.1⟩
theorem owns_empty (w : World) (e : TypeId) (size : Nat) : (w.alloc (.cells #[] e)).ownsRow w.heap.size e size (.slice (some ⟨w.heap.size, 0, none⟩) 0 0) 0 [] :=
  ⟨by simp, .inr ⟨w.heap.size, 0, #[], rfl, Nat.le_refl _, heap_alloc_new w _, Nat.le_refl _, by unfold maxLen; omega, by simp, by simp⟩⟩
theorem pr_isNil (A : Option Addr) (n c : Nat) (w : World) : (binOp .eql 92 (.slice A n c) (.slice none 0 0)).run Tryd.prog w = .ok (.bool A.isNone) w := Lib.run_eql_slice_nil w _ _ _ _ _ _ _ Tryd.underlying92
attribute [local go_sem] pr_isNil
theorem pr_info : ∃ i z, Tryd.prog.info? 95 = some i ∧ i.zero = some z ∧ z.cells.size = 2 ∧ i.size = 2 ∧ i.bytes = 16 ∧ z = .agg #[.int .i64 0, .int .i64 0] := by
  have h : (Tryd.prog.info? 95).map (fun i => (i.zero, i.size, i.bytes)) = some (some (.agg #[.int .i64 0, .int .i64 0]), 2, 16) := by kernel_rfl
  cases hq : Tryd.prog.info? 95 with
  | none => simp [hq] at h
  | some i =>
    simp only [hq, Option.map_some, Option.some.injEq, Prod.mk.injEq] at h
    exact ⟨i, _, rfl, h.1, rfl, h.2.1, h.2.2, rfl⟩
theorem grownOnly {S : Nat → Prop} {w w' : World} {row : Option Nat} (h : w.grownBy w' row) (hs : ∀ g, row = some g → S g) : Only S w w' :=
  ⟨h.os, h.tape, h.output, h.size, fun k hk hn => h.block k hk fun e => hn (hs k e.symm)⟩
theorem wp_gen {P : Program} {a : Act} {Q : Exit → Act → World → Prop} {c : Code} {w : World} (I : World → Prop) (hI : I w) (h : ∀ w', I w' → c.wp P Q a w') : c.wp P Q a w := h w hI
theorem Row.new (w : World) (cs : Array Value) (T : TypeId) : Row (w.alloc (.cells cs T)) w.heap.size 0 cs.toList :=
  ⟨by simp, fun j v hj => by simp [go_sem]; simpa using hj, fun j hj => by simp [go_sem]⟩
end Go.Proofs.YtoeiemeffiiidaaDoor

namespace Go.Proofs.YtoeiemeffiiidaaDoor
set_option maxRecDepth 100000
set_option linter.unusedSimpArgs false
set_option linter.unusedVariables false
open Go.RowKit

theorem ownsAt.raw {w : World} {base g a n cap : Nat} {e : TypeId} {size : Nat} {xs : List Value} (h : ownsAt w base e size (.slice (some ⟨g, a, none⟩) n cap) n xs) :
    ∃ o cur, a = o * size ∧ base ≤ g ∧ w.heap[g]? = some (.cells cur e (0, 0)) ∧ n ≤ cap ∧ o + cap ≤ maxLen ∧ (cap = 0 ∨ cur.size = (o + cap) * size) ∧ (cur.toList.drop (o * size)).take (n * size) = xs := by
  rcases h.2 with ⟨h1, _⟩ | ⟨g', o, cap', cur, hv, hb, hg, hn, hm, hs, ht⟩
  · cases h1
  · simp only [Value.slice.injEq, Option.some.injEq, Addr.mk.injEq, and_true, true_and] at hv
    obtain ⟨⟨rfl, rfl⟩, rfl⟩ := hv
    exact ⟨o, cur, rfl, hb, hg, hn, hm, hs, ht⟩
theorem ownsAt.of {w : World} {base g o n cap : Nat} {e : TypeId} {size : Nat} {ys : Array Value} {xs : List Value} (hb : base ≤ g) (hg : w.heap[g]? = some (.cells ys e (0, 0))) (hn : n ≤ cap) (hm : o + cap ≤ maxLen) (hs : ys.size = (o + cap) * size) (hl : xs.length = n * size)
    (hc : ∀ j, j < n * size → ys.toList[o * size + j]? = xs[j]?) : ownsAt w base e size (.slice (some ⟨g, o * size, none⟩) n cap) n xs := by
  refine ⟨hl, .inr ⟨g, o, cap, ys, rfl, hb, hg, hn, hm, .inr hs, ?_⟩⟩
  apply List.ext_getElem?
  intro j
  by_cases hj : j < n * size
  · rw [List.getElem?_take, if_pos hj, List.getElem?_drop, hc j hj]
  · rw [List.getElem?_eq_none (by simp; omega), List.getElem?_eq_none (by rw [hl]; omega)]
theorem raw_at {cur : Array Value} {o n size : Nat} {xs : List Value} (h : (cur.toList.drop (o * size)).take (n * size) = xs) {j : Nat} (hj : j < n * size) : cur.toList[o * size + j]? = xs[j]? := by
  rw [← h, List.getElem?_take, if_pos hj, List.getElem?_drop]
/-- 'clear' at one element of two cells. -/
theorem run_clear2 (w : World) (ty : TypeId) (b off c : Nat) (h0 : (w.cell? ⟨b, off, none⟩).isSome = true) (h1 : (w.cell? ⟨b, off + 1, none⟩).isSome = true) (f0 : w.frozen? ⟨b, off, none⟩ = false) (f1 : w.frozen? ⟨b, off + 1, none⟩ = false) :
    (Builtin.clear_ #[92] ty #[.slice (some ⟨b, off, none⟩) 1 c]).run Tryd.prog w = .ok (.tuple #[]) (w.setCells b off [.int .i64 0, .int .i64 0]) := by
  obtain ⟨i0, z0, hi0, hz0, hz1, hz2, hz3, rfl⟩ := pr_info
  have hst := run_storeCells_cells (P := Tryd.prog) b off [.int .i64 0, .int .i64 0] 0 w (by
    intro j hj
    match j, hj with
    | 0, _ => exact h0
    | 1, _ => exact h1) (by
    intro j hj
    match j, hj with
    | 0, _ => exact f0
    | 1, _ => exact f1) (by intro v hv; simp at hv; rw [hv]; rfl)
  simp only [Nat.add_zero] at hst
  have hzc : (Builtin.zeroCells (Value.agg #[.int .i64 0, .int .i64 0]).cells 1).toList = [.int .i64 0, .int .i64 0] := by simp [Builtin.zeroCells, Value.cells]; rfl
  have hv : ∀ w, (zeroValue 95).run Tryd.prog w = .ok (.agg #[.int .i64 0, .int .i64 0]) w := fun w => by
    simp [zeroValue, typeInfo, hi0, hz0]
  simp [Builtin.clear_, run_underlying Tryd.underlying92, hv, hzc, hst]
/-- 'append' in place: there is room. -/
theorem run_app_in (w : World) (ty : TypeId) (base g a cap n : Nat) (xs : List Value) (h : ownsAt w base 95 2 (.slice (some ⟨g, a, none⟩) n cap) n xs) (i m c : Nat) (ad : Addr) (news : List Value) (hi : i + m ≤ cap) (hl : news.length = m * 2) (nn : Nat) (hnn : i + m = nn)
    (hnews : ∀ j u, news[j]? = some u → w.cell? (ad.add j) = some u) (h1 : ∀ u ∈ news, u.oneCell' = true) :
    (Builtin.append_ #[92, 92] ty #[.slice (some ⟨g, a, none⟩) i cap, .slice (some ad) m c]).run Tryd.prog w = .ok (.slice (some ⟨g, a, none⟩) nn cap) (w.setCells g (a + i * 2) news) := by
  subst hnn
  obtain ⟨i0, z0, hi0, hz0, hz1, hz2, hz3, _⟩ := pr_info
  obtain ⟨o, cur, rfl, hb, hg, hn, hm, hs, ht⟩ := h.raw
  by_cases hc0 : cap = 0
  · obtain rfl : m = 0 := by omega
    obtain rfl : i = 0 := by omega
    obtain rfl : news = [] := List.eq_nil_of_length_eq_zero (by omega)
    have hsrc : Src Tryd.prog i0.size 92 (.slice (some ad) 0 c) 0 [] w := Src.ofSlice w Tryd.underlying92 ad 0 c [] (by simp) hnews h1
    have := run_append_room_src (P := Tryd.prog) w 92 92 ty 95 i0 Tryd.underlying92 hi0 g (o * 2) 0 cap _ 0 [] hsrc hi (by intro j hj; simp at hj) (by intro j hj; simp at hj)
    rw [hz2] at this
    exact this
  · have hs := hs.resolve_left hc0
    have hsrc : Src Tryd.prog i0.size 92 (.slice (some ad) m c) m news w := Src.ofSlice w Tryd.underlying92 ad m c news (by rw [hz2]; exact hl) hnews h1
    have := run_append_room_src (P := Tryd.prog) w 92 92 ty 95 i0 Tryd.underlying92 hi0 g (o * 2) i cap _ m news hsrc hi
      (fun j hj => by rw [hz2, cell_of_row w g _ cur 95 (0, 0) hg, Array.getElem?_eq_getElem (by omega)]; rfl) (fun j hj => by simp [World.frozen?, hg])
    rw [hz2] at this
    exact this
set_option maxRecDepth 100000 in
set_option maxHeartbeats 4000000 in
theorem edel_ (base g a m cap i : Nat) (l : List Pr) (w : World) (h : ownsAt w base 95 2 (.slice (some ⟨g, a, none⟩) (m + 1) cap) (m + 1) (prList l)) (hi : i ≤ m) (hbig : m ≤ 1000000000) :
    Calls Tryd.prog 67 #[.slice (some ⟨g, a, none⟩) (m + 1) cap, .int .i64 i, .int .i64 ((i : Int) + 1)] w fun e w' => e = .returned (.slice (some ⟨g, a, none⟩) m cap) ∧ Hid (ownsAt w' base 95 2 (.slice (some ⟨g, a, none⟩) m cap) m (prList (l.eraseIdx i))) ∧ Hid (Only (fun k => k = g) w w') := by
  have hll : l.length = m + 1 := by have := h.1; rw [prList_length] at this; omega
  have HL := hid hll
  have HH := hid h
  have hnc : m + 1 ≤ cap := by obtain ⟨_, _, _, _, _, hnc, _⟩ := h.raw; exact hnc
  have hgl : g < w.heap.size := by obtain ⟨_, cur, _, _, hg, _⟩ := h.raw; exact (Array.getElem?_eq_some_iff.1 hg).1
  have hcm : cap ≤ 9223372036854775807 := by obtain ⟨_, _, _, _, _, _, hm, _⟩ := h.raw; unfold maxLen at hm; omega
  clear h hll
  have k0 : (0 : Int) ≤ (i : Int) := by omega
  have k1 : (i : Int) < (m : Int) + 1 := by omega
  have k2 : (i : Int) + 1 ≤ (m : Int) + 1 := by omega
  have k3 : (m : Int) + 1 ≤ (cap : Int) := by omega
  have k4 : (i : Int) ≤ (m : Int) + 1 := by omega
  have k5 : ¬ (i : Int) = (i : Int) + 1 := by omega
  have k6 : ¬ (m : Int) + 1 = (i : Int) := by omega
  have k7 : ¬ m + 1 = i := by omega
  have k8 : (i : Int) ≤ (i : Int) + 1 := by omega
  have k9 : ((i : Int) + 1).toNat = i + 1 := by omega
  have k10 : (0 : Int) ≤ (i : Int) + 1 := by omega
  have k11 : (i : Int) + 1 ≤ (cap : Int) := by omega
  have k12 : (i : Int) ≤ (cap : Int) := by omega
  have k14 : (0 : Int) ≤ (m : Int) := by omega
  have k15 : (m : Int) ≤ (m : Int) + 1 := by omega
  have k16 : (m : Int) ≤ (cap : Int) := by omega
  have k17 : ¬ cap = m := by omega
  have k18 : ¬ (cap : Int) = (m : Int) := by omega
  have k19 : i ≤ m := hi
  go_enter Tryd.func67, Tryd.ntmps67
  go_upto_region 5 with (fail)
  by_cases hci : cap = i + 1
  · have k13 : (cap : Int) = (i : Int) + 1 := by omega
    obtain rfl : m = i := by omega
    subst hci
    refine wp_region_turn (q := g) (.rd 0 (.rd 1 (.rd 2 (.rd 3 (.rd 4 (.rd 5 (.ac 6 (.rd 7 .done)))))))) (by kernel_rfl) (by kernel_rfl) (fun _ _ d _ _ h => by cases d <;> exact h) (by simp only [Ord.map, nthOp, List.append]; rfl) ?_
    intro d0
    have hx0 : Ext w (Go.Proofs.YtoeiemeffiiidaaDoor.grow w d0) := Ext.grow (Ext.refl _) d0
    have HW := hid (HH.out.ext hx0)
    have hxo := hid (Only.ofExt (S := fun k => k = g) hx0)
    generalize Go.Proofs.YtoeiemeffiiidaaDoor.grow w d0 = W at HW hxo ⊢
    clear hx0
    have HNEWS : Hid (∀ j u, ([] : List Value)[j]? = some u → W.cell? (Addr.add ⟨g, a, none⟩ j) = some u) := hid (fun j u hj => by simp at hj)
    repeat' (first | (refine turn_read (by rfl) (fun K hK => ?_); go_big_quiet_op; refine hK _ ?_; clear hK K) | (refine turn_act (by rfl) (fun K hK => ?_); refine Go.Lib.wp_append_run _ (.tmp 22) (.tmp 25) 92 92 rfl _ _ rfl rfl _ _ (run_app_in W _ base g a (m + 1) _ _ HW.out m 0 _ ⟨g, a, none⟩ ([] : List Value) (by omega) (by simp) m (by omega) (HNEWS.out) (by intro u hu; simp at hu)) ?_; refine hK _ _ ⟨_, Only.refl _ _, Only.setCells (S := fun k => k = g) (.inl rfl) _ _ (Only.refl _ _), ?_⟩; clear hK K; simp only [Act.put, List.setIfInBounds_toArray, List.set_cons_zero, List.set_cons_succ]))
    refine turn_nil ?_
    obtain ⟨o, cur, rfl, hb, hg, hn, hm, hs, ht⟩ := HW.out.raw
    obtain ⟨ys, y1, y2, y3⟩ := setCells_row ([] : List Value) (o * 2 + m * 2) W cur hg
    have hO2 : Hid (Only (fun k => k = g) w (W.setCells g (o * 2 + m * 2) ([] : List Value))) := hid (Only.trans' hxo.out (Only.setCells (S := fun k => k = g) (.inl rfl) _ _ (Only.refl _ _)))
    have hs := hs.resolve_left (by omega)
    have Y1 := hid y1
    have Y2 := hid y2
    have Y3 := hid y3
    have HT := hid ht
    have HS := hid hs
    generalize W.setCells g (o * 2 + m * 2) ([] : List Value) = W2 at Y1 hO2 ⊢
    clear y1 y2 y3 hg ht hs HNEWS hxo HW
    have hcl : ∀ ty, (Builtin.clear_ #[92] ty #[.slice (some ⟨g, o * 2 + m * 2, none⟩) 1 (1)]).run Tryd.prog W2 = .ok (.tuple #[]) (W2.setCells g (o * 2 + m * 2) [.int .i64 0, .int .i64 0]) := fun ty => by
      have hsz : o * 2 + m * 2 + 1 < ys.size := by rw [Y2.out, HS.out]; omega
      exact run_clear2 W2 ty g _ _ (by rw [cell_of_row W2 g _ ys 95 (0, 0) Y1.out, Array.getElem?_eq_getElem (by omega)]; rfl) (by rw [cell_of_row W2 g _ ys 95 (0, 0) Y1.out, Array.getElem?_eq_getElem (by omega)]; rfl) (by simp [World.frozen?, Y1.out]) (by simp [World.frozen?, Y1.out])
    go_wp2
    go_ret
    obtain ⟨zs, z1, z2, z3⟩ := setCells_row [.int .i64 0, .int .i64 0] (o * 2 + m * 2) W2 ys Y1.out
    refine ⟨rfl, hid (ownsAt.of hb z1 (by omega) hm (by rw [z2, Y2.out, HS.out]) (by rw [prList_length, List.length_eraseIdx, HL.out, if_pos (by omega)]; omega) (fun j hj => ?_)), hid (Only.trans' hO2.out (Only.setCells (S := fun k => k = g) (.inl rfl) _ _ (Only.refl _ _)))⟩
    have h2 := HS.out
    have h4 := Y2.out
    have h5 : ([] : List Value).length = 0 * 2 := (by simp)
    rw [z3, if_neg (by simp only [List.length_cons, List.length_nil]; omega), Y3.out, List.eraseIdx_eq_take_drop_succ, prList_append]
    by_cases hji : j < m * 2
    · rw [if_neg (by omega), raw_at HT.out (by omega), List.getElem?_append_left (by rw [prList_length, List.length_take]; have := HL.out; omega), ← prList_take, List.getElem?_take, if_pos hji]
    · omega
  · have k13 : ¬ (cap : Int) = (i : Int) + 1 := by omega
    refine wp_region_turn (q := g) (.rd 0 (.rd 1 (.rd 2 (.rd 3 (.rd 4 (.rd 5 (.ac 6 (.rd 7 .done)))))))) (by kernel_rfl) (by kernel_rfl) (fun _ _ d _ _ h => by cases d <;> exact h) (by simp only [Ord.map, nthOp, List.append]; rfl) ?_
    intro d0
    have hx0 : Ext w (Go.Proofs.YtoeiemeffiiidaaDoor.grow w d0) := Ext.grow (Ext.refl _) d0
    have HW := hid (HH.out.ext hx0)
    have hxo := hid (Only.ofExt (S := fun k => k = g) hx0)
    generalize Go.Proofs.YtoeiemeffiiidaaDoor.grow w d0 = W at HW hxo ⊢
    clear hx0
    have HNEWS : Hid (∀ j u, (prList (l.drop (i + 1)))[j]? = some u → W.cell? (Addr.add ⟨g, a + (i + 1) * 2, none⟩ j) = some u) := hid (fun j u hj => by
          have hlt := (List.getElem?_eq_some_iff.1 hj).1
          rw [prList_length, List.length_drop, HL.out] at hlt
          obtain ⟨o, cur, rfl, _, hg, _, _, _, ht⟩ := HW.out.raw
          rw [Addr.add_lit, cell_of_row W g _ cur 95 (0, 0) hg, ← Array.getElem?_toList, show o * 2 + (i + 1) * 2 + j = o * 2 + ((i + 1) * 2 + j) by omega, raw_at ht (by omega), ← List.getElem?_drop, prList_drop]
          exact hj)
    repeat' (first | (refine turn_read (by rfl) (fun K hK => ?_); go_big_quiet_op; refine hK _ ?_; clear hK K) | (refine turn_act (by rfl) (fun K hK => ?_); refine Go.Lib.wp_append_run _ (.tmp 22) (.tmp 25) 92 92 rfl _ _ rfl rfl _ _ (run_app_in W _ base g a cap _ _ HW.out i (m - i) _ ⟨g, a + (i + 1) * 2, none⟩ (prList (l.drop (i + 1))) (by omega) (by rw [prList_length, List.length_drop, HL.out]; omega) m (by omega) (HNEWS.out) (prs_one _)) ?_; refine hK _ _ ⟨_, Only.refl _ _, Only.setCells (S := fun k => k = g) (.inl rfl) _ _ (Only.refl _ _), ?_⟩; clear hK K; simp only [Act.put, List.setIfInBounds_toArray, List.set_cons_zero, List.set_cons_succ]))
    refine turn_nil ?_
    obtain ⟨o, cur, rfl, hb, hg, hn, hm, hs, ht⟩ := HW.out.raw
    obtain ⟨ys, y1, y2, y3⟩ := setCells_row (prList (l.drop (i + 1))) (o * 2 + i * 2) W cur hg
    have hO2 : Hid (Only (fun k => k = g) w (W.setCells g (o * 2 + i * 2) (prList (l.drop (i + 1))))) := hid (Only.trans' hxo.out (Only.setCells (S := fun k => k = g) (.inl rfl) _ _ (Only.refl _ _)))
    have hs := hs.resolve_left (by omega)
    have Y1 := hid y1
    have Y2 := hid y2
    have Y3 := hid y3
    have HT := hid ht
    have HS := hid hs
    generalize W.setCells g (o * 2 + i * 2) (prList (l.drop (i + 1))) = W2 at Y1 hO2 ⊢
    clear y1 y2 y3 hg ht hs HNEWS hxo HW
    have hcl : ∀ ty, (Builtin.clear_ #[92] ty #[.slice (some ⟨g, o * 2 + m * 2, none⟩) 1 (cap - m)]).run Tryd.prog W2 = .ok (.tuple #[]) (W2.setCells g (o * 2 + m * 2) [.int .i64 0, .int .i64 0]) := fun ty => by
      have hsz : o * 2 + m * 2 + 1 < ys.size := by rw [Y2.out, HS.out]; omega
      exact run_clear2 W2 ty g _ _ (by rw [cell_of_row W2 g _ ys 95 (0, 0) Y1.out, Array.getElem?_eq_getElem (by omega)]; rfl) (by rw [cell_of_row W2 g _ ys 95 (0, 0) Y1.out, Array.getElem?_eq_getElem (by omega)]; rfl) (by simp [World.frozen?, Y1.out]) (by simp [World.frozen?, Y1.out])
    go_wp2
    go_ret
    obtain ⟨zs, z1, z2, z3⟩ := setCells_row [.int .i64 0, .int .i64 0] (o * 2 + m * 2) W2 ys Y1.out
    refine ⟨rfl, hid (ownsAt.of hb z1 (by omega) hm (by rw [z2, Y2.out, HS.out]) (by rw [prList_length, List.length_eraseIdx, HL.out, if_pos (by omega)]; omega) (fun j hj => ?_)), hid (Only.trans' hO2.out (Only.setCells (S := fun k => k = g) (.inl rfl) _ _ (Only.refl _ _)))⟩
    have h2 := HS.out
    have h4 := Y2.out
    have h5 : (prList (l.drop (i + 1))).length = (m - i) * 2 := (by rw [prList_length, List.length_drop, HL.out]; omega)
    rw [z3, if_neg (by simp only [List.length_cons, List.length_nil]; omega), Y3.out, List.eraseIdx_eq_take_drop_succ, prList_append]
    by_cases hji : j < i * 2
    · rw [if_neg (by omega), raw_at HT.out (by omega), List.getElem?_append_left (by rw [prList_length, List.length_take]; have := HL.out; omega), ← prList_take, List.getElem?_take, if_pos hji]
    · rw [if_pos (by omega), List.getElem?_append_right (by rw [prList_length, List.length_take]; have := HL.out; omega), prList_length, List.length_take, show o * 2 + j - (o * 2 + i * 2) = j - min i l.length * 2 by have := HL.out; omega]
end Go.Proofs.YtoeiemeffiiidaaDoor

namespace Go.Proofs.YtoeiemeffiiidaaDoor
set_option maxRecDepth 100000
set_option linter.unusedSimpArgs false
set_option linter.unusedVariables false
open Go.RowKit

theorem ins_at (l : List Pr) (p : Pr) (i n : Nat) (hl : l.length = n) (hi : i ≤ n) (j : Nat) :
    (prList (l.take i ++ p :: l.drop i))[j]? = if j < i * 2 then (prList l)[j]? else if j < (i + 1) * 2 then p.cells[j - i * 2]? else (prList (l.drop i))[j - (i + 1) * 2]? := by
  have h1 : (prList (l.take i)).length = i * 2 := by rw [prList_length, List.length_take]; omega
  have h2 : p.cells.length = 2 := rfl
  rw [prList_append, prList_cons]
  by_cases hj : j < i * 2
  · rw [if_pos hj, List.getElem?_append_left (by omega), ← prList_take, List.getElem?_take, if_pos hj]
  · rw [if_neg hj, List.getElem?_append_right (by omega), h1]
    by_cases hj2 : j < (i + 1) * 2
    · rw [if_pos hj2, List.getElem?_append_left (by omega)]
    · rw [if_neg hj2, List.getElem?_append_right (by omega), h2, show j - i * 2 - 2 = j - (i + 1) * 2 by omega]
theorem ins_len (l : List Pr) (p : Pr) (i n : Nat) (hl : l.length = n) (hi : i ≤ n) : (l.take i ++ p :: l.drop i).length = n + 1 := by
  rw [List.length_append, List.length_cons, List.length_take, List.length_drop]; omega
/-- 'copy' of elements of two cells. -/
theorem run_copy2 (w : World) (ty : TypeId) (b o dLen dCap : Nat) (a : Addr) (sLen sCap : Nat) (cs : List Value) (cur : Array Value) (m : Nat) (hm : Nat.min sLen dLen = m) (hn : cs.length = m * 2) (hg : w.heap[b]? = some (.cells cur 95 (0, 0))) (hfit : o + cs.length ≤ cur.size)
    (hsrc : ∀ j v, cs[j]? = some v → w.cell? (a.add j) = some v) (h1 : ∀ v ∈ cs, v.oneCell' = true) :
    (Builtin.copy_ #[92, 92] ty #[.slice (some ⟨b, o, none⟩) dLen dCap, .slice (some a) sLen sCap]).run Tryd.prog w = .ok (goInt m) (w.setCells b o cs) := by
  obtain ⟨i0, z0, hi0, hz0, hz1, hz2, hz3, rfl⟩ := pr_info
  have hl := run_loadCells_list (P := Tryd.prog) w a cs hsrc
  have hst := run_storeCells_cells (P := Tryd.prog) b o cs 0 w (by intro j hj; rw [cell_of_row w b _ cur 95 (0, 0) hg, Array.getElem?_eq_getElem (by omega)]; rfl) (by intro j hj; simp [World.frozen?, hg]) h1
  rw [hn] at hl
  have hm' : min sLen dLen = m := hm
  simp [Builtin.copy_, run_underlying Tryd.underlying92, Builtin.lenOf, Builtin.firstCells, sizeOf, typeInfo, hi0, hz2, hm, hm', hl, hst]
theorem wp_copy_run {P : Program} (w : World) {o : Oper} {a : Act} {K : Act → World → Prop} {Q : Exit → Act → World → Prop} (d s : Operand) (t t' : TypeId)
    (ho : o.op = .call { callee := .builtin .copy, args := #[d, s], argTypes := #[t, t'] }) (v u : Value) (hd : a.eval d = v) (hs : a.eval s = u) {v' : Value} {w' : World}
    (hr : (Builtin.copy_ #[t, t'] o.type #[v, u]).run P w = .ok v' w') (h : K (a.put o.dst v') w') : o.wp P a w K Q := by
  unfold Oper.wp execOp
  simp only [ho, resolve, invoke, builtin, Sem.run_bind, Sem.run_pure, Result.andThen_ok, List.map_toArray, List.map_cons, List.map_nil, hd, hs, hr]
  exact h
set_option maxRecDepth 100000 in
set_option maxHeartbeats 4000000 in
theorem einsEnd_ (w : World) (base : Nat) (p : Pr) (vb : Nat) (hV : w.heap[vb]? = some (.cells #[.int .i64 p.lo, .int .i64 p.hi] 95 (0, 0))) (v : Value) (n : Nat) (l : List Pr) (h : ownsAt w base 95 2 v n (prList l)) (hbig : n ≤ 100000000) (hbase : base ≤ w.heap.size) (i : Nat) (hi : i = n) :
    Calls Tryd.prog 61 #[v, .int .i64 n, .slice (some ⟨vb, 0, none⟩) 1 1] w fun e w' => ∃ v', e = .returned v' ∧ Hid (ownsAt w' base 95 2 v' (n + 1) (prList (l.take i ++ p :: l.drop i))) ∧ Hid (Only (fun k => v.ownBlock = some k) w w') ∧ ∀ g, v'.ownBlock = some g → v.ownBlock = some g ∨ w.heap.size ≤ g := by
  have hll : l.length = n := by have := h.1; rw [prList_length] at this; omega
  obtain ⟨A, cap, rfl, hca, hnil⟩ := h.shape
  obtain ⟨i0, z0, hi0, hz0, hz1, hz2, hz3, _⟩ := pr_info
  have HI := hid hi0
  have HZ := hid hz0
  have HH := hid h
  have hvc : ∀ j u, ([.int .i64 p.lo, .int .i64 p.hi] : List Value)[j]? = some u → w.cell? ⟨vb, j, none⟩ = some u := fun j u hj => by
    rw [cell_of_row w vb _ _ 95 (0, 0) hV, ← Array.getElem?_toList]; exact hj
  have HVC := hid hvc
  have k0 : (0 : Int) ≤ (n : Int) := by omega
  have k1 : (n : Int) ≤ (cap : Int) := by omega
  clear hi0 hz0 h hV hvc
  have hfin : ∀ v3 w3, ownsAt w3 base 95 2 v3 (n + 1) (prList l ++ [.int .i64 p.lo, .int .i64 p.hi]) → w.grownBy w3 (Value.slice A n cap).ownBlock → (v3.ownBlock = (Value.slice A n cap).ownBlock ∨ ∃ g, v3.ownBlock = some g ∧ w.heap.size ≤ g) → Hid (ownsAt w3 base 95 2 v3 (n + 1) (prList (l.take i ++ p :: l.drop i))) ∧ Hid (Only (fun k => (Value.slice A n cap).ownBlock = some k) w w3) ∧ ∀ g, v3.ownBlock = some g → (Value.slice A n cap).ownBlock = some g ∨ w.heap.size ≤ g := fun v3 w3 h1 h2 h3 => by
    refine ⟨hid ?_, hid (grownOnly (S := fun k => (Value.slice A n cap).ownBlock = some k) h2 fun g e => e), fun g hg => ?_⟩
    · rw [hi, List.take_of_length_le (by omega), List.drop_of_length_le (by omega), prList_append, prList_one]
      exact h1
    · rcases h3 with e | ⟨g', e, hl⟩
      · exact .inl (e ▸ hg)
      · rw [hg] at e
        obtain rfl : g = g' := by simpa using e
        exact .inr hl
  have HF := hid hfin
  clear hfin hi
  by_cases hcn : cap = n
  · have k2 : (cap : Int) = (n : Int) := by omega
    subst hcn
    go_enter Tryd.func61, Tryd.ntmps61
    go_wp2_with (at_builtin; refine wpList_plain rfl fun K hK => ?_; refine wp_append_at _ _ _ 92 rfl base 95 i0 z0 2 16 Tryd.underlying92 HI.out HZ.out hz2 hz3 hz1 (by decide) _ _ _ rfl HH.out ⟨vb, 0, none⟩ 1 1 [.int .i64 p.lo, .int .i64 p.hi] rfl rfl (fun j u hj => by rw [Addr.add_lit, Nat.zero_add]; exact HVC.out j u hj) (pr_one p) (by unfold maxLen; omega) (by omega) hbase (by omega) ?_; intro v3 w3 hown3 hgrow3 hat3; refine hK _ _ ?_; clear hK K)
    go_ret
    exact ⟨_, rfl, HF.out _ _ hown3 hgrow3 hat3⟩
  · have k2 : ¬ (cap : Int) = (n : Int) := by omega
    have k3 : A ≠ none := fun h => hcn (by have := hnil h; omega)
    obtain _ | ⟨g, a, sp⟩ := A
    · exact absurd rfl k3
    obtain rfl : sp = none := by
      rcases HH.out.2 with ⟨h, _⟩ | ⟨g', o', c', cur, h, _⟩
      · cases h
      · cases h; rfl
    go_enter Tryd.func61, Tryd.ntmps61
    go_wp2_with (at_builtin; refine wpList_plain rfl fun K hK => ?_; refine wp_append_at _ _ _ 92 rfl base 95 i0 z0 2 16 Tryd.underlying92 HI.out HZ.out hz2 hz3 hz1 (by decide) _ _ _ rfl HH.out ⟨vb, 0, none⟩ 1 1 [.int .i64 p.lo, .int .i64 p.hi] rfl rfl (fun j u hj => by rw [Addr.add_lit, Nat.zero_add]; exact HVC.out j u hj) (pr_one p) (by unfold maxLen; omega) (by omega) hbase (by omega) ?_; intro v3 w3 hown3 hgrow3 hat3; refine hK _ _ ?_; clear hK K)
    go_ret
    exact ⟨_, rfl, HF.out _ _ hown3 hgrow3 hat3⟩
end Go.Proofs.YtoeiemeffiiidaaDoor

namespace Go.Proofs.YtoeiemeffiiidaaDoor
set_option maxRecDepth 100000
set_option linter.unusedSimpArgs false
set_option linter.unusedVariables false
open Go.RowKit

theorem Only.mono {S T : Nat → Prop} {w w' : World} (h : Only S w w') (hst : ∀ i, S i → T i) : Only T w w' := ⟨h.os, h.tape, h.output, h.size, fun k hk hn => h.block k hk fun hs => hn (hst k hs)⟩
set_option maxRecDepth 100000 in
set_option maxHeartbeats 4000000 in
theorem einsIn_ (w : World) (base : Nat) (p : Pr) (vb : Nat) (hV : w.heap[vb]? = some (.cells #[.int .i64 p.lo, .int .i64 p.hi] 95 (0, 0))) (g a n cap i : Nat) (l : List Pr) (h : ownsAt w base 95 2 (.slice (some ⟨g, a, none⟩) n cap) n (prList l)) (hi : i < n) (hroom : n + 1 ≤ cap) (hbig : n ≤ 100000000) (hvg : vb ≠ g) :
    Calls Tryd.prog 61 #[.slice (some ⟨g, a, none⟩) n cap, .int .i64 i, .slice (some ⟨vb, 0, none⟩) 1 1] w fun e w' => ∃ v', e = .returned v' ∧ Hid (ownsAt w' base 95 2 v' (n + 1) (prList (l.take i ++ p :: l.drop i))) ∧ Hid (Only (fun k => (Value.slice (some ⟨g, a, none⟩) n cap).ownBlock = some k) w w') ∧ ∀ g', v'.ownBlock = some g' → (Value.slice (some ⟨g, a, none⟩) n cap).ownBlock = some g' ∨ w.heap.size ≤ g' := by
  have hov : ∀ lb cb, (callFunc 74 #[.slice (some ⟨vb, 0, none⟩) 1 1, .slice (some ⟨g, a + (i + 1) * 2, none⟩) lb cb]).run Tryd.prog w = .ok (.value (.bool false)) w := fun lb cb => by
    obtain ⟨o, cur, _, _, hg, hn0, _, hs0, _⟩ := h.raw
    have hs0 := hs0.resolve_left (by omega)
    rw [run_callFunc_extern Tryd.func74 (by kernel_rfl) (by kernel_rfl) (by kernel_rfl) (e := Extern.SlicesOverlaps.overlaps #[92, 92] #[4]) (by kernel_rfl),
      Lib.run_overlaps_apart w 92 4 95 Tryd.underlying92 2 (fun w => by kernel_rfl) ⟨vb, 0, none⟩ ⟨g, a + (i + 1) * 2, none⟩ 1 1 lb cb hvg 95 95 2 cur.size (by simp [World.shape?, hV]) (by simp [World.shape?, hg]) (by omega) (by simp [World.frozen?, hV]) (by simp [World.frozen?, hV])]
    rfl
  have hll : l.length = n := by have := h.1; rw [prList_length] at this; omega
  have HL := hid hll
  have HH := hid h
  have HV := hid hV
  have hnc : n ≤ cap := by obtain ⟨_, _, _, _, _, hnc, _⟩ := h.raw; exact hnc
  have hgl : g < w.heap.size := by obtain ⟨_, cur, _, _, hg, _⟩ := h.raw; exact (Array.getElem?_eq_some_iff.1 hg).1
  have hvl : vb < w.heap.size := (Array.getElem?_eq_some_iff.1 hV).1
  have k0 : (0 : Int) ≤ (i : Int) := by omega
  have k1 : (i : Int) < (n : Int) := by omega
  have k2 : (i : Int) ≤ (n : Int) := by omega
  have k3 : (n : Int) ≤ (cap : Int) := by omega
  have k4 : ¬ (i : Int) = (n : Int) := by omega
  have k4n : ¬ i = n := by omega
  have k6 : ¬ (cap : Int) = (i : Int) := by omega
  have k7 : ¬ cap = i := by omega
  have k8 : (i : Int) ≤ (cap : Int) := by omega
  have k9 : ((i : Int) + 1).toNat = i + 1 := by omega
  have k10 : (0 : Int) ≤ (i : Int) + 1 := by omega
  have k11 : (i : Int) + 1 ≤ (n : Int) + 1 := by omega
  have k11b : (i : Int) + 1 ≤ (n : Int) := by omega
  have k12 : (i : Int) ≤ (n : Int) + 1 := by omega
  have k13 : (0 : Int) ≤ (n : Int) + 1 := by omega
  have k14 : ((n : Int) + 1).toNat = n + 1 := by omega
  have hcm : cap ≤ 9223372036854775807 := by obtain ⟨_, _, _, _, _, _, hm, _⟩ := h.raw; unfold maxLen at hm; omega
  have k20 : ¬ (cap : Int) < (n : Int) + 1 := by omega
  have k21 : (n : Int) + 1 ≤ (cap : Int) := by omega
  have k22 : ¬ (cap : Int) = (i : Int) + 1 := by omega
  have k23 : ¬ cap = i + 1 := by omega
  have k24 : (i : Int) + 1 ≤ (cap : Int) := by omega
  clear h hV hll
  go_enter Tryd.func61, Tryd.ntmps61
  go_upto_region 15 with (simp only [hov])
  clear hov
  refine wp_region_turn (q := g) (.rd 0 (.rd 1 (.rd 2 (.rd 3 (.rd 4 (.rd 5 (.rd 6 (.rd 7 (.ac 8 .done))))))))) (by kernel_rfl) (by kernel_rfl) (fun _ _ d _ _ h => by cases d <;> exact h) (by simp only [Ord.map, nthOp, List.append]; rfl) ?_
  intro d0
  have hx0 : Ext w (Go.Proofs.YtoeiemeffiiidaaDoor.grow w d0) := Ext.grow (Ext.refl _) d0
  have HW := hid (HH.out.ext hx0)
  have hxo := hid (Only.ofExt (S := fun k => k = g) hx0)
  generalize Go.Proofs.YtoeiemeffiiidaaDoor.grow w d0 = W at HW hxo ⊢
  clear hx0
  obtain ⟨o, cur, rfl, hb, hg, hn, hm, hs, ht⟩ := HW.out.raw
  have hs := hs.resolve_left (by omega)
  have HNEWS : Hid (∀ j u, (prList (l.drop i))[j]? = some u → W.cell? (Addr.add ⟨g, o * 2 + i * 2, none⟩ j) = some u) := hid (fun j u hj => by
    have hlt := (List.getElem?_eq_some_iff.1 hj).1
    rw [prList_length, List.length_drop, HL.out] at hlt
    rw [Addr.add_lit, cell_of_row W g _ cur 95 (0, 0) hg, ← Array.getElem?_toList, show o * 2 + i * 2 + j = o * 2 + (i * 2 + j) by omega, raw_at ht (by omega), ← List.getElem?_drop, prList_drop]
    exact hj)
  have hcp : ∀ ty dc sc, (Builtin.copy_ #[92, 92] ty #[.slice (some ⟨g, o * 2 + (i + 1) * 2, none⟩) (n - i) dc, .slice (some ⟨g, o * 2 + i * 2, none⟩) (n + 1 - i) sc]).run Tryd.prog W = .ok (goInt ((n - i : Nat) : Int)) (W.setCells g (o * 2 + (i + 1) * 2) (prList (l.drop i))) := fun ty dc sc =>
    run_copy2 W ty g (o * 2 + (i + 1) * 2) (n - i) dc ⟨g, o * 2 + i * 2, none⟩ (n + 1 - i) sc (prList (l.drop i)) cur (n - i) (by simp only [Nat.min_def]; split <;> omega) (by rw [prList_length, List.length_drop, HL.out]) hg (by rw [prList_length, List.length_drop, HL.out]; omega) HNEWS.out (prs_one _)
  have HCP := hid hcp
  clear hcp
  repeat' (first | (refine turn_read (by rfl) (fun K hK => ?_); go_big_quiet_op; refine hK _ ?_; clear hK K) | (refine turn_act (by rfl) (fun K hK => ?_); refine wp_copy_run _ (.tmp 73) (.tmp 76) 92 92 rfl (.slice (some ⟨g, o * 2 + (i + 1) * 2, none⟩) (n - i) (cap - (i + 1))) (.slice (some ⟨g, o * 2 + i * 2, none⟩) (n + 1 - i) (cap - i)) rfl rfl (HCP.out _ _ _) ?_; refine hK _ _ ⟨_, Only.refl _ _, Only.setCells (S := fun k => k = g) (.inl rfl) _ _ (Only.refl _ _), ?_⟩; clear hK K; simp only [Act.put, List.setIfInBounds_toArray, List.set_cons_zero, List.set_cons_succ]))
  refine turn_nil ?_
  obtain ⟨ys, y1, y2, y3⟩ := setCells_row (prList (l.drop i)) (o * 2 + (i + 1) * 2) W cur hg
  have hO2 : Hid (Only (fun k => k = g) w (W.setCells g (o * 2 + (i + 1) * 2) (prList (l.drop i)))) := hid (Only.trans' hxo.out (Only.setCells (S := fun k => k = g) (.inl rfl) _ _ (Only.refl _ _)))
  have Y1 := hid y1
  have Y2 := hid y2
  have Y3 := hid y3
  have HT := hid ht
  have HS := hid hs
  generalize W.setCells g (o * 2 + (i + 1) * 2) (prList (l.drop i)) = W2 at Y1 hO2 ⊢
  clear y1 y2 y3 hg ht hs HNEWS HCP hxo HW
  have hvW : Hid (W2.heap[vb]? = some (.cells #[.int .i64 p.lo, .int .i64 p.hi] 95 (0, 0))) := hid (by rw [hO2.out.block vb hvl hvg]; exact HV.out)
  have hcp2 : ∀ ty dc, (Builtin.copy_ #[92, 92] ty #[.slice (some ⟨g, o * 2 + i * 2, none⟩) (n + 1 - i) dc, .slice (some ⟨vb, 0, none⟩) 1 1]).run Tryd.prog W2 = .ok (goInt 1) (W2.setCells g (o * 2 + i * 2) [.int .i64 p.lo, .int .i64 p.hi]) := fun ty dc =>
    run_copy2 W2 ty g (o * 2 + i * 2) (n + 1 - i) dc ⟨vb, 0, none⟩ 1 1 [.int .i64 p.lo, .int .i64 p.hi] ys 1 (by simp only [Nat.min_def]; split <;> omega) rfl Y1.out (by rw [Y2.out, HS.out]; simp; omega) (fun j u hj => by rw [Addr.add_lit, Nat.zero_add, cell_of_row W2 vb _ _ 95 (0, 0) hvW.out, ← Array.getElem?_toList]; exact hj) (pr_one p)
  go_wp2
  go_ret
  obtain ⟨zs, z1, z2, z3⟩ := setCells_row [.int .i64 p.lo, .int .i64 p.hi] (o * 2 + i * 2) W2 ys Y1.out
  refine ⟨_, rfl, hid (ownsAt.of hb z1 (by omega) hm (by rw [z2, Y2.out, HS.out]) (by rw [prList_length, ins_len l p i n HL.out (by omega)]) (fun j hj => ?_)), hid ((Only.trans' hO2.out (Only.setCells (S := fun k => k = g) (.inl rfl) _ _ (Only.refl _ _))).mono fun k e => by subst e; rfl), fun g' hg' => .inl hg'⟩
  have h2 := HS.out
  have h4 := Y2.out
  have h5 : (prList (l.drop i)).length = (n - i) * 2 := by rw [prList_length, List.length_drop, HL.out]
  have h6 : ([.int .i64 p.lo, .int .i64 p.hi] : List Value).length = 2 := rfl
  rw [ins_at l p i n HL.out (by omega), z3, Y3.out]
  by_cases j1 : j < i * 2
  · rw [if_pos j1, if_neg (by omega), if_neg (by omega), raw_at HT.out (by omega)]
  · rw [if_neg j1]
    by_cases j2 : j < (i + 1) * 2
    · rw [if_pos j2, if_pos (by omega), show o * 2 + j - (o * 2 + i * 2) = j - i * 2 by omega]
      rfl
    · rw [if_neg j2, if_neg (by omega), if_pos (by omega), show o * 2 + j - (o * 2 + (i + 1) * 2) = j - (i + 1) * 2 by omega]
end Go.Proofs.YtoeiemeffiiidaaDoor

namespace Go.Proofs.YtoeiemeffiiidaaDoor
set_option maxRecDepth 100000
set_option linter.unusedSimpArgs false
set_option linter.unusedVariables false
open Go.RowKit

set_option maxRecDepth 100000 in
set_option maxHeartbeats 4000000 in
theorem einsGrow_ (w : World) (base : Nat) (p : Pr) (vb : Nat) (hV : w.heap[vb]? = some (.cells #[.int .i64 p.lo, .int .i64 p.hi] 95 (0, 0))) (g a n cap i : Nat) (l : List Pr) (h : ownsAt w base 95 2 (.slice (some ⟨g, a, none⟩) n cap) n (prList l)) (hi : i < n) (hroom : ¬ n + 1 ≤ cap) (hbig : n ≤ 100000000) (hbase : base ≤ w.heap.size) :
    Calls Tryd.prog 61 #[.slice (some ⟨g, a, none⟩) n cap, .int .i64 i, .slice (some ⟨vb, 0, none⟩) 1 1] w fun e w' => ∃ v', e = .returned v' ∧ Hid (ownsAt w' base 95 2 v' (n + 1) (prList (l.take i ++ p :: l.drop i))) ∧ Hid (Only (fun k => (Value.slice (some ⟨g, a, none⟩) n cap).ownBlock = some k) w w') ∧ ∀ g', v'.ownBlock = some g' → (Value.slice (some ⟨g, a, none⟩) n cap).ownBlock = some g' ∨ w.heap.size ≤ g' := by
  have hll : l.length = n := by have := h.1; rw [prList_length] at this; omega
  have HL := hid hll
  have HH := hid h
  have HV := hid hV
  have hnc : n ≤ cap := by obtain ⟨_, _, _, _, _, hnc, _⟩ := h.raw; exact hnc
  have hgl : g < w.heap.size := by obtain ⟨_, cur, _, _, hg, _⟩ := h.raw; exact (Array.getElem?_eq_some_iff.1 hg).1
  have hvl : vb < w.heap.size := (Array.getElem?_eq_some_iff.1 hV).1
  have k0 : (0 : Int) ≤ (i : Int) := by omega
  have k1 : (i : Int) < (n : Int) := by omega
  have k2 : (i : Int) ≤ (n : Int) := by omega
  have k3 : (n : Int) ≤ (cap : Int) := by omega
  have k4 : ¬ (i : Int) = (n : Int) := by omega
  have k4n : ¬ i = n := by omega
  have k6 : ¬ (cap : Int) = (i : Int) := by omega
  have k7 : ¬ cap = i := by omega
  have k8 : (i : Int) ≤ (cap : Int) := by omega
  have k9 : ((i : Int) + 1).toNat = i + 1 := by omega
  have k10 : (0 : Int) ≤ (i : Int) + 1 := by omega
  have k11 : (i : Int) + 1 ≤ (n : Int) + 1 := by omega
  have k11b : (i : Int) + 1 ≤ (n : Int) := by omega
  have k12 : (i : Int) ≤ (n : Int) + 1 := by omega
  have k13 : (0 : Int) ≤ (n : Int) + 1 := by omega
  have k14 : ((n : Int) + 1).toNat = n + 1 := by omega
  obtain rfl : cap = n := by omega
  have k20 : (cap : Int) < (cap : Int) + 1 := by omega
  obtain ⟨i0, z0, hi0, hz0, hz1, hz2, hz3, rfl⟩ := pr_info
  have hold : (Builtin.firstCells i0.size i (.slice (some ⟨g, a, none⟩) i cap)).run Tryd.prog w.drew = .ok (prList (l.take i)).toArray w.drew := by
    rw [hz2]
    refine run_firstCells_some w.drew 2 i ⟨g, a, none⟩ i cap (prList (l.take i)) (by rw [prList_length, List.length_take, hll]; omega) (fun j v hj => ?_)
    have hlt := (List.getElem?_eq_some_iff.1 hj).1
    rw [prList_length, List.length_take, hll] at hlt
    obtain ⟨o, cur, rfl, _, hg, _, _, _, ht⟩ := h.raw
    rw [Addr.add_lit]
    show w.cell? _ = _
    rw [cell_of_row w g _ cur 95 (0, 0) hg, ← Array.getElem?_toList, raw_at ht (by omega)]
    rw [← prList_take, List.getElem?_take, if_pos (by omega)] at hj
    exact hj
  obtain ⟨G, hG⟩ : ∃ G, G = grownCap w (cap + 1) cap 95 := ⟨_, rfl⟩
  obtain ⟨ROW, hROW⟩ : ∃ ROW : Array Value, ROW = (prList (l.take i)).toArray ++ Builtin.zeroCells (Value.agg #[.int .i64 0, .int .i64 0]).cells (cap + 1 - i) ++ Builtin.zeroCells (Value.agg #[.int .i64 0, .int .i64 0]).cells (G - (cap + 1)) := ⟨_, rfl⟩
  have hrz : ∀ ty, (Builtin.append_ #[92, 3] ty #[.slice (some ⟨g, a, none⟩) i cap, .int .i64 ((cap : Int) + 1 - (i : Int))]).run Tryd.prog w = .ok (.slice (some ⟨w.heap.size, 0, none⟩) (cap + 1) G) (w.drew.alloc (.cells ROW 95)) := fun ty => by
    have h := Lib.run_append_grow_zeros w 92 3 ty 95 i0 _ .i64 .i64 Tryd.underlying92 Tryd.underlying3 hi0 hz0 (some ⟨g, a, none⟩) i cap (prList (l.take i)) hold (cap + 1 - i) (by omega) (by omega) (by omega) (by omega) (by rw [hz3]; omega) (by rw [hz3, show i + (cap + 1 - i) = cap + 1 by omega]; exact growslice_fits (by omega) (by omega))
    rw [show i + (cap + 1 - i) = cap + 1 by omega, ← hG, ← hROW] at h
    rw [show (cap : Int) + 1 - (i : Int) = ((cap + 1 - i : Nat) : Int) by omega]
    exact h
  have HRZ := hid hrz
  have hGn : cap + 1 ≤ G := by rw [hG]; exact grownCap_ge w _ _ _
  have hG63 : G ≤ maxLen := by rw [hG]; exact grownCap_le_maxLen w (cap + 1) cap 95 (by unfold maxLen; omega)
  have hRS : Hid (ROW.size = G * 2) := hid (by rw [hROW]; simp [Builtin.zeroCells, Value.cells, prList_length, hll]; omega)
  have hRA : Hid (∀ j, j < i * 2 → ROW.toList[j]? = (prList l)[j]?) := hid (fun j hj => by
    rw [hROW, Array.toList_append, Array.toList_append, List.append_assoc, List.getElem?_append_left (by simp [prList_length, hll]; omega)]
    show (prList (l.take i))[j]? = _
    rw [← prList_take, List.getElem?_take, if_pos hj])
  have h63i : (G : Int) ≤ 9223372036854775807 := by unfold maxLen at hG63; omega
  have k22 : ¬ G = i := by omega
  have k22i : ¬ (G : Int) = (i : Int) := by omega
  have k23 : ¬ G = i + 1 := by omega
  have k23i : ¬ (G : Int) = (i : Int) + 1 := by omega
  have k25 : (cap : Int) + 1 ≤ (G : Int) := by omega
  have k26 : (i : Int) ≤ (G : Int) := by omega
  have k27 : (i : Int) + 1 ≤ (G : Int) := by omega
  obtain ⟨N, hN⟩ : ∃ x, w.heap.size = x := ⟨_, rfl⟩
  have hgN : g < N := by omega
  have hvN : vb < N := by omega
  clear h hV hll hold hrz hROW hG hi0 hz0 hz1 hz2 hz3
  go_enter Tryd.func61, Tryd.ntmps61
  go_upto_region 10 with (at_builtin; refine Go.Lib.wpList_append_run _ rfl _ _ 92 3 rfl _ _ rfl rfl _ _ (HRZ.out _) ?_)
  refine wp_gen (fun W => Hid (Ext w W) ∧ Hid (W.heap[N]? = some (.cells ROW 95 (0, 0)))) ⟨hid ?e1, hid ?e2⟩ ?_
  case e1 => exact (by repeat (first | (with_reducible exact Ext.refl _) | (with_reducible refine Ext.undrew ?_) | (with_reducible refine Ext.grow ?_ _) | (with_reducible refine Ext.drew ?_) | (with_reducible refine Ext.drewN ?_ _) | (with_reducible refine Ext.alloc ?_ _) | (with_reducible assumption) | ((with_reducible refine Ext.setCell ?_ ?_ _); rotate_left; (first | exact Nat.le_refl _ | ((try dsimp only); (try simp only [World.size_alloc, grow_size, World.size_setCell]); omega)))))
  case e2 => subst hN; exact heap_alloc_new w.drew _
  rintro W1 ⟨hx1, hR1⟩
  try rw [hN]
  clear HRZ
  have HV1 : Hid (W1.heap[vb]? = some (.cells #[.int .i64 p.lo, .int .i64 p.hi] 95 (0, 0))) := hid (by rw [(Only.ofExt (S := fun _ => False) hx1.out).block vb hvl id]; exact HV.out)
  have hcpA : ∀ ty dc, (Builtin.copy_ #[92, 92] ty #[.slice (some ⟨N, i * 2, none⟩) (cap + 1 - i) dc, .slice (some ⟨vb, 0, none⟩) 1 1]).run Tryd.prog W1 = .ok (goInt 1) (W1.setCells N (i * 2) [.int .i64 p.lo, .int .i64 p.hi]) := fun ty dc =>
    run_copy2 W1 ty N (i * 2) (cap + 1 - i) dc ⟨vb, 0, none⟩ 1 1 [.int .i64 p.lo, .int .i64 p.hi] ROW 1 (by simp only [Nat.min_def]; split <;> omega) rfl hR1.out (by rw [hRS.out]; simp; omega) (fun j u hj => by rw [Addr.add_lit, Nat.zero_add, cell_of_row W1 vb _ _ 95 (0, 0) HV1.out, ← Array.getElem?_toList]; exact hj) (pr_one p)
  go_upto_region 11 with (fail)
  clear hcpA
  obtain ⟨ys, y1, y2, y3⟩ := setCells_row [.int .i64 p.lo, .int .i64 p.hi] (i * 2) W1 ROW hR1.out
  have hO2 : Hid (Only (fun k => k = N) W1 (W1.setCells N (i * 2) [.int .i64 p.lo, .int .i64 p.hi])) := hid (Only.setCells (S := fun k => k = N) (.inl rfl) _ _ (Only.refl _ _))
  refine wp_gen (fun W => Hid (Only (fun k => k = N) W1 W) ∧ Hid (W.heap[N]? = some (.cells ys 95 (0, 0)))) ⟨hO2, hid y1⟩ ?_
  clear hO2 y1
  rintro W2 ⟨hO2, Y1⟩
  have Y2 := hid y2
  have Y3 := hid y3
  clear y2 y3
  refine wp_region_turn (q := N) (.rd 0 (.rd 1 (.rd 2 (.rd 3 (.rd 4 (.rd 5 (.rd 6 (.rd 7 (.ac 8 .done))))))))) (by kernel_rfl) (by kernel_rfl) (fun _ _ d _ _ h => by cases d <;> exact h) (by simp only [Ord.map, nthOp, List.append]; rfl) ?_
  intro d0
  have hx0 : Ext W2 (Go.Proofs.YtoeiemeffiiidaaDoor.grow W2 d0) := Ext.grow (Ext.refl _) d0
  have hNl : N < W2.heap.size := (Array.getElem?_eq_some_iff.1 Y1.out).1
  have HW := hid (((HH.out.ext hx1.out).only hO2.out (fun g' e => by simp [Value.ownBlock] at e; omega)).ext hx0)
  have hO3 := hid (Only.transExt hO2.out hx0)
  have Y4 : Hid ((Go.Proofs.YtoeiemeffiiidaaDoor.grow W2 d0).heap[N]? = some (.cells ys 95 (0, 0))) := hid (by rw [(Only.ofExt (S := fun _ => False) hx0).block N hNl id]; exact Y1.out)
  generalize Go.Proofs.YtoeiemeffiiidaaDoor.grow W2 d0 = W at HW hO3 Y4 ⊢
  clear hx0 hO2 Y1
  have HNEWS : Hid (∀ j u, (prList (l.drop i))[j]? = some u → W.cell? (Addr.add ⟨g, a + i * 2, none⟩ j) = some u) := hid (fun j u hj => by
    have hlt := (List.getElem?_eq_some_iff.1 hj).1
    rw [prList_length, List.length_drop, HL.out] at hlt
    obtain ⟨o, cur, rfl, _, hg, _, _, _, ht⟩ := HW.out.raw
    rw [Addr.add_lit, cell_of_row W g _ cur 95 (0, 0) hg, ← Array.getElem?_toList, show o * 2 + i * 2 + j = o * 2 + (i * 2 + j) by omega, raw_at ht (by omega), ← List.getElem?_drop, prList_drop]
    exact hj)
  have hcp : ∀ ty dc sc, (Builtin.copy_ #[92, 92] ty #[.slice (some ⟨N, (i + 1) * 2, none⟩) (cap - i) dc, .slice (some ⟨g, a + i * 2, none⟩) (cap - i) sc]).run Tryd.prog W = .ok (goInt ((cap - i : Nat) : Int)) (W.setCells N ((i + 1) * 2) (prList (l.drop i))) := fun ty dc sc =>
    run_copy2 W ty N ((i + 1) * 2) (cap - i) dc ⟨g, a + i * 2, none⟩ (cap - i) sc (prList (l.drop i)) ys (cap - i) (by simp only [Nat.min_def]; split <;> omega) (by rw [prList_length, List.length_drop, HL.out]) Y4.out (by rw [prList_length, List.length_drop, HL.out, Y2.out, hRS.out]; omega) HNEWS.out (prs_one _)
  have HCP := hid hcp
  clear hcp
  repeat' (first | (refine turn_read (by rfl) (fun K hK => ?_); go_big_quiet_op; refine hK _ ?_; clear hK K) | (refine turn_act (by rfl) (fun K hK => ?_); refine wp_copy_run _ (.tmp 50) (.tmp 53) 92 92 rfl (.slice (some ⟨N, (i + 1) * 2, none⟩) (cap - i) (G - (i + 1))) (.slice (some ⟨g, a + i * 2, none⟩) (cap - i) (cap - i)) rfl rfl (HCP.out _ _ _) ?_; refine hK _ _ ⟨_, Only.refl _ _, Only.setCells (S := fun k => k = N) (.inl rfl) _ _ (Only.refl _ _), ?_⟩; clear hK K; simp only [Act.put, List.setIfInBounds_toArray, List.set_cons_zero, List.set_cons_succ]))
  refine turn_nil ?_
  go_wp2
  go_ret
  obtain ⟨zs, z1, z2, z3⟩ := setCells_row (prList (l.drop i)) ((i + 1) * 2) W ys Y4.out
  have hO4 : Only (fun k => k = N) W1 (W.setCells N ((i + 1) * 2) (prList (l.drop i))) := Only.setCells (S := fun k => k = N) (.inl rfl) _ _ hO3.out
  have hX4 : Ext w (W.setCells N ((i + 1) * 2) (prList (l.drop i))) := Ext.only hx1.out hO4 (fun k e => by omega)
  have h2 := hRS.out
  have h4 := Y2.out
  refine ⟨_, rfl, hid ?_, hid (Only.ofExt hX4), fun g' hg' => .inr (by simp [Value.ownBlock] at hg'; omega)⟩
  have hfin := ownsAt.of (o := 0) (size := 2) (xs := prList (l.take i ++ p :: l.drop i)) (n := cap + 1) (cap := G) (base := base) (by omega) z1 hGn (by omega) (by rw [z2, h4, h2]; omega) (by rw [prList_length, ins_len l p i cap HL.out (by omega)]) (fun j hj => ?_)
  · rw [Nat.zero_mul] at hfin
    exact hfin
  have h5 : (prList (l.drop i)).length = (cap - i) * 2 := by rw [prList_length, List.length_drop, HL.out]
  have h6 : ([.int .i64 p.lo, .int .i64 p.hi] : List Value).length = 2 := rfl
  rw [ins_at l p i cap HL.out (by omega), Nat.zero_mul, Nat.zero_add, z3, Y3.out]
  by_cases j1 : j < i * 2
  · rw [if_pos j1, if_neg (by omega), if_neg (by omega), hRA.out j j1]
  · rw [if_neg j1]
    by_cases j2 : j < (i + 1) * 2
    · rw [if_pos j2, if_neg (by omega), if_pos (by omega)]
      rfl
    · rw [if_neg j2, if_pos (by omega)]
end Go.Proofs.YtoeiemeffiiidaaDoor

namespace Go.Proofs.YtoeiemeffiiidaaDoor
set_option maxRecDepth 100000
set_option linter.unusedSimpArgs false
set_option linter.unusedVariables false
open Go.RowKit

theorem eins_ (w : World) (base : Nat) (p : Pr) (vb : Nat) (hV : w.heap[vb]? = some (.cells #[.int .i64 p.lo, .int .i64 p.hi] 95 (0, 0))) (v : Value) (n i : Nat) (l : List Pr) (h : ownsAt w base 95 2 v n (prList l)) (hi : i ≤ n) (hbig : n ≤ 100000000) (hbase : base ≤ w.heap.size) (hvg : ∀ g, v.ownBlock = some g → vb ≠ g) :
    Calls Tryd.prog 61 #[v, .int .i64 i, .slice (some ⟨vb, 0, none⟩) 1 1] w fun e w' => ∃ v', e = .returned v' ∧ Hid (ownsAt w' base 95 2 v' (n + 1) (prList (l.take i ++ p :: l.drop i))) ∧ Hid (Only (fun k => v.ownBlock = some k) w w') ∧ ∀ g', v'.ownBlock = some g' → v.ownBlock = some g' ∨ w.heap.size ≤ g' := by
  by_cases hin : i = n
  · subst hin
    exact einsEnd_ w base p vb hV v i l h hbig hbase i rfl
  · rcases h.2 with ⟨_, h0⟩ | ⟨g, o', cap, cur, rfl, _, _, _⟩
    · omega
    · by_cases hr : n + 1 ≤ cap
      · exact einsIn_ w base p vb hV g _ n cap i l h (by omega) hr hbig (hvg g rfl)
      · exact einsGrow_ w base p vb hV g _ n cap i l h (by omega) hr hbig hbase
/-- Does a run have so many bytes? -/
def fits (n : Int) (x : Pr) : Bool := decide (n ≤ x.len)
def fitAt (n : Int) (l : List Pr) : Int := match l.findIdx? (fits n) with
  | some k => k
  | none => -1
set_option maxRecDepth 100000 in
set_option maxHeartbeats 4000000 in
theorem take1_ (n : Int) (xl xh d : Int) (B : Nat) (w : World) (hB : w.cell? ⟨B, 0, none⟩ = some (.int .i64 n)) (hb : B < w.heap.size) (hd : wrap64 (xh - xl) = d) :
    Calls Tryd.prog 65 #[.agg #[.int .i64 xl, .int .i64 xh], .pointer (some ⟨B, 0, none⟩)] w fun e w' => e = .returned (.bool (decide (n ≤ d))) ∧ Ext w w' := by
  have HD := hid hd
  clear hd
  go_enter Tryd.func65, Tryd.ntmps65
  go_upto_region 1 with (fail)
  refine wp_region_step (.rd 0 (.rd 2 (.ac 1 (.rd 3 (.rd 4 .done))))) (by kernel_rfl) (by kernel_rfl) (fun _ _ d _ _ h => by cases d <;> exact h) (by simp only [Ord.map, nthOp, List.append]; rfl) ?_
  intro d0
  repeat' (first | (refine step_read (by rfl) (fun K hK => ?_); go_big_quiet_op; refine hK _ ?_; clear hK K) | (refine step_act (by rfl) (fun K hK => ?_); go_wp2_with (first | (go_at_call 66; refine (len_ ⟨xl, xh⟩ d HD.out _).mono ?_; rintro e w1 ⟨rfl, hy⟩)); refine ⟨_, (by repeat (first | (with_reducible exact Ext.refl _) | (with_reducible refine Ext.undrew ?_) | (with_reducible refine Ext.grow ?_ _) | (with_reducible refine Ext.drew ?_) | (with_reducible refine Ext.drewN ?_ _) | (with_reducible refine Ext.alloc ?_ _) | (with_reducible assumption) | ((with_reducible refine Ext.setCell ?_ ?_ _); rotate_left; (first | exact Nat.le_refl _ | ((try dsimp only); (try simp only [World.size_alloc, grow_size, World.size_setCell]); omega))))), Ext.refl _, ?_⟩) | refine step_br ?_ ?_)
  all_goals refine step_nil ?_
  go_wp2
  go_ret
  exact ⟨rfl, Ext.trans (by repeat (first | (with_reducible exact Ext.refl _) | (with_reducible refine Ext.undrew ?_) | (with_reducible refine Ext.grow ?_ _) | (with_reducible refine Ext.drew ?_) | (with_reducible refine Ext.drewN ?_ _) | (with_reducible refine Ext.alloc ?_ _) | (with_reducible assumption) | ((with_reducible refine Ext.setCell ?_ ?_ _); rotate_left; (first | exact Nat.le_refl _ | ((try dsimp only); (try simp only [World.size_alloc, grow_size, World.size_setCell]); omega))))) hy⟩
set_option maxRecDepth 100000 in
set_option maxHeartbeats 4000000 in
theorem idxP_ (A : Option Addr) (c B : Nat) (n : Int) (l : List Pr) (w : World) (hr : RdP w A l) (hl : l.length ≤ 100000000) (ho : okF l) (hB : w.cell? ⟨B, 0, none⟩ = some (.int .i64 n)) (hb : B < w.heap.size) :
    Calls Tryd.prog 64 #[.slice A l.length c, .func (.func 65) #[] #[.pointer (some ⟨B, 0, none⟩)]] w fun e w' => e = .returned (.int .i64 (fitAt n l)) ∧ Ext w w' := by
  have HR := hid hr
  have HO := hid ho
  have HB := hid hB
  clear hr ho hB
  have hfn : ∀ args w', Sem.run Tryd.prog (callFunc 65 args) w' = .ok (.enter 65 args) w' := fun args w' => enterOf Tryd.func65 (by kernel_rfl) (by kernel_rfl) _ _
  go_enter Tryd.func64, Tryd.ntmps64
  go_wp2
  go_loopw [8] (fun i wr => ∃ k : Nat, k ≤ l.length ∧ i = .int .i64 k ∧ Hid (∀ j (h : j < l.length), j < k → fits n l[j] = false) ∧ Ext w wr) (fun i _ => l.length - (intOf i).toNat)
  case atStart => exact ⟨0, Nat.zero_le _, rfl, hid (fun j _ h => absurd h (by omega)), (by repeat (first | (with_reducible exact Ext.refl _) | (with_reducible refine Ext.undrew ?_) | (with_reducible refine Ext.grow ?_ _) | (with_reducible refine Ext.drew ?_) | (with_reducible refine Ext.drewN ?_ _) | (with_reducible refine Ext.alloc ?_ _) | (with_reducible assumption) | ((with_reducible refine Ext.setCell ?_ ?_ _); rotate_left; (first | exact Nat.le_refl _ | ((try dsimp only); (try simp only [World.size_alloc, grow_size, World.size_setCell]); omega)))))⟩
  case round =>
    obtain ⟨k, hk, rfl, HP, hx⟩ := hrel
    by_cases hlt : k < l.length
    · obtain ⟨b, o, rfl, hb0, c0, c1⟩ := (HR.out.ext hx).two hlt
      have hk1 : (k : Int) < (l.length : Int) := by omega
      have hk0 : (0 : Int) ≤ (k : Int) := by omega
      have hk2 : k + 1 ≤ l.length := by omega
      have hx1 := HO.out _ (List.getElem_mem hlt)
      have hBc : wr.cell? ⟨B, 0, none⟩ = some (.int .i64 n) := (hx.cells B 0 hb).trans HB.out
      have hBl : B < wr.heap.size := Nat.lt_of_lt_of_le hb hx.size
      have hd : wrap64 ((l[k]).hi - (l[k]).lo) = (l[k]).len := wrapP (by omega) (by omega)
      have hT := hid (take1_ n (l[k]).lo (l[k]).hi (l[k]).len B wr hBc hBl hd)
      have hfd : decide (n ≤ (l[k]).len) = fits n l[k] := rfl
      rw [hfd] at hT
      generalize (l[k]).lo = xl at c0 hT
      generalize (l[k]).hi = xh at c1 hT
      clear hx1 hd hBc hfd
      cases hg : fits n l[k] with
      | true =>
        rw [hg] at hT
        go_wp2_with (refine hT.out.mono ?_; rintro e w1 ⟨rfl, hy⟩)
        go_ret
        refine ⟨?_, hx.trans hy⟩
        have : l.findIdx? (fits n) = some k := List.findIdx?_eq_some_iff_getElem.2 ⟨hlt, hg, fun j hj => by rw [HP.out j (by omega) hj]; decide⟩
        unfold fitAt
        rw [this]
        rfl
      | false =>
        rw [hg] at hT
        go_wp2_with (refine hT.out.mono ?_; rintro e w1 ⟨rfl, hy⟩)
        go_roundw
        case rel => exact ⟨k + 1, hk2, by go_num, hid (fun j h hj => by
          rcases Nat.lt_or_ge j k with h1 | h1
          · exact HP.out j h h1
          · obtain rfl : j = k := by omega
            exact hg), hx.trans hy⟩
        case measure => simp [intOf]; omega
    · obtain rfl : k = l.length := by omega
      have hk1 : ¬ (l.length : Int) < (l.length : Int) := by omega
      go_wp2
      go_ret
      refine ⟨?_, hx⟩
      have : l.findIdx? (fits n) = none := List.findIdx?_eq_none_iff.2 fun x hxm => by
        obtain ⟨j, hj, rfl⟩ := List.mem_iff_getElem.1 hxm
        exact HP.out j hj hj
      unfold fitAt
      rw [this]
      rfl
end Go.Proofs.YtoeiemeffiiidaaDoor

namespace Go.Proofs.YtoeiemeffiiidaaDoor
set_option maxRecDepth 100000
set_option linter.unusedSimpArgs false
set_option linter.unusedVariables false
open Go.RowKit

theorem prList_at2 (l : List Pr) (j : Nat) (hj : j < l.length * 2) : (prList l)[j]? = (l[j / 2]'(by omega)).cells[j % 2]? := by
  have := prList_at l (j / 2) (j % 2) (by omega) (by omega)
  rwa [show j / 2 * 2 + j % 2 = j by omega] at this
theorem prList_setLo (l : List Pr) (k : Nat) (x : Int) (hk : k < l.length) (j : Nat) (hj : j < l.length * 2) : (prList (l.set k ⟨x, (l[k]).hi⟩))[j]? = if j = k * 2 then some (.int .i64 x) else (prList l)[j]? := by
  rw [prList_at2 _ j (by rw [List.length_set]; exact hj), prList_at2 l j hj, List.getElem_set]
  by_cases e : k = j / 2
  · subst e
    rw [if_pos rfl]
    rcases (show j % 2 = 0 ∨ j % 2 = 1 by omega) with h | h
    · rw [if_pos (by omega), h]; rfl
    · rw [if_neg (by omega), h]; rfl
  · rw [if_neg e, if_neg (by omega)]
theorem prList_setHi (l : List Pr) (k : Nat) (x : Int) (hk : k < l.length) (j : Nat) (hj : j < l.length * 2) : (prList (l.set k ⟨(l[k]).lo, x⟩))[j]? = if j = k * 2 + 1 then some (.int .i64 x) else (prList l)[j]? := by
  rw [prList_at2 _ j (by rw [List.length_set]; exact hj), prList_at2 l j hj, List.getElem_set]
  by_cases e : k = j / 2
  · subst e
    rw [if_pos rfl]
    rcases (show j % 2 = 0 ∨ j % 2 = 1 by omega) with h | h
    · rw [if_neg (by omega), h]; rfl
    · rw [if_pos (by omega), h]; rfl
  · rw [if_neg e, if_neg (by omega)]
theorem ownsAt.putCell {w : World} {base g a n cap off : Nat} {l m : List Pr} {u : Value} (h : ownsAt w base 95 2 (.slice (some ⟨g, a, none⟩) n cap) n (prList l)) (hl : l.length = n) (hm : m.length = n) (ho : off < n * 2) (hc : ∀ j, j < n * 2 → (prList m)[j]? = if j = off then some u else (prList l)[j]?) :
    ownsAt (w.setCell ⟨g, a + off, none⟩ u) base 95 2 (.slice (some ⟨g, a, none⟩) n cap) n (prList m) := by
  obtain ⟨o, cur, rfl, hb, hg, hn, hmx, hs, ht⟩ := h.raw
  have hs := hs.resolve_left (by omega)
  obtain ⟨ys, y1, y2, y3⟩ := setCells_row [u] (o * 2 + off) w cur hg
  refine ownsAt.of hb y1 hn hmx (by rw [y2, hs]) (by rw [prList_length, hm]) (fun j hj => ?_)
  rw [y3, hc j hj]
  by_cases e : j = off
  · subst e
    rw [if_pos rfl, if_pos ⟨by omega, by simp, by omega⟩, Nat.sub_self]
    rfl
  · rw [if_neg e, if_neg (by simp only [List.length_cons, List.length_nil]; omega), raw_at ht hj]
/-- What is left, when so much of the k-th run was taken. -/
def takeK (l : List Pr) (k : Nat) (n : Int) (hk : k < l.length) : List Pr := if (l[k]).len = n then l.eraseIdx k else l.set k ⟨(l[k]).lo + n, (l[k]).hi⟩
def tch (q : Nat) (v : Value) : Nat → Prop := fun i => i = q ∨ v.ownBlock = some i
set_option maxRecDepth 100000 in
set_option maxHeartbeats 4000000 in
theorem take_no1 (q base : Nat) (fr to : Int) (v : Value) (l : List Pr) (w : World) (h : Fr w q base fr to v l) (n : Int) (hn : n < 1) : Calls Tryd.prog 41 #[.pointer (some ⟨q, 0, none⟩), .int .i64 n] w fun e w' => e = .returned (.tuple #[.int .i64 0, .bool false]) ∧ Ext w w' := by
  clear h
  go_enter Tryd.func41, Tryd.ntmps41
  go_upto_region 1 with (fail)
  refine wp_gen (fun W => Hid (Ext w W) ∧ Hid (W.cell? ⟨w.heap.size, 0, none⟩ = some (.int .i64 n)) ∧ w.heap.size < W.heap.size) ⟨hid (Ext.alloc (Ext.refl w) _), hid (by simp [go_sem]), by simp⟩ ?_
  rintro W0 ⟨hx0, hB0, hBl⟩
  have hBc := hB0.out
  obtain ⟨B, hBe⟩ : ∃ x, w.heap.size = x := ⟨_, rfl⟩
  rw [hBe] at hBc hBl ⊢
  clear hB0
  go_wp2
  refine bodyPost_ret (v := .tuple #[.int .i64 0, .bool false]) (by simp [results, Tryd.results41, go_sem]) rfl ?_
  exact ⟨rfl, hx0.out⟩
theorem take_no2 (q base : Nat) (fr to : Int) (v : Value) (l : List Pr) (w : World) (h : Fr w q base fr to v l) (n : Int) (hn : 1 ≤ n) (hg0 : g16 n = false) : Calls Tryd.prog 41 #[.pointer (some ⟨q, 0, none⟩), .int .i64 n] w fun e w' => e = .returned (.tuple #[.int .i64 0, .bool false]) ∧ Ext w w' := by
  clear h
  have hg : [n].all g16 = false := by simp [hg0]
  have hn1 : ¬ n < 1 := by omega
  clear hg0
  go_enter Tryd.func41, Tryd.ntmps41
  go_upto_region 1 with (fail)
  refine wp_gen (fun W => Hid (Ext w W) ∧ Hid (W.cell? ⟨w.heap.size, 0, none⟩ = some (.int .i64 n)) ∧ w.heap.size < W.heap.size) ⟨hid (Ext.alloc (Ext.refl w) _), hid (by simp [go_sem]), by simp⟩ ?_
  rintro W0 ⟨hx0, hB0, hBl⟩
  have hBc := hB0.out
  obtain ⟨B, hBe⟩ : ∃ x, w.heap.size = x := ⟨_, rfl⟩
  rw [hBe] at hBc hBl ⊢
  clear hB0
  go_wp2_with (go_at_call 51; refine (gran_ (some ⟨W0.heap.size, 0, none⟩) 1 [n] _ (slAtNew W0 [.int .i64 n] _) (by simp)).mono ?_; rw [hg]; rintro e w1 ⟨rfl, hx1⟩)
  refine bodyPost_ret (v := .tuple #[.int .i64 0, .bool false]) (by simp [results, Tryd.results41, go_sem]) rfl ?_
  exact ⟨rfl, (hx0.out.trans (Ext.alloc (Ext.refl _) _)).trans hx1⟩
set_option maxRecDepth 100000 in
set_option maxHeartbeats 4000000 in
theorem take_no3 (q base : Nat) (fr to : Int) (v : Value) (l : List Pr) (w : World) (h : Fr w q base fr to v l) (hl : l.length ≤ 10000000) (ho : okF l) (n : Int) (hn : 1 ≤ n) (hg0 : g16 n = true) (hf : l.findIdx? (fits n) = none) : Calls Tryd.prog 41 #[.pointer (some ⟨q, 0, none⟩), .int .i64 n] w fun e w' => e = .returned (.tuple #[.int .i64 0, .bool false]) ∧ Ext w w' := by
  have hfa : fitAt n l = -1 := by unfold fitAt; rw [hf]
  obtain ⟨A, ca, rfl, hca, hnil⟩ := h.2.2.2.1.shape
  have HQ := hid h
  clear h
  have hg : [n].all g16 = true := by simp [hg0]
  have hn1 : ¬ n < 1 := by omega
  go_enter Tryd.func41, Tryd.ntmps41
  go_upto_region 1 with (fail)
  refine wp_gen (fun W => Hid (Ext w W) ∧ Hid (W.cell? ⟨w.heap.size, 0, none⟩ = some (.int .i64 n)) ∧ w.heap.size < W.heap.size) ⟨hid (Ext.alloc (Ext.refl w) _), hid (by simp [go_sem]), by simp⟩ ?_
  rintro W0 ⟨hx0, hB0, hBl⟩
  have hBc := hB0.out
  obtain ⟨B, hBe⟩ : ∃ x, w.heap.size = x := ⟨_, rfl⟩
  rw [hBe] at hBc hBl ⊢
  clear hB0
  go_upto_region 3 with (go_at_call 51; refine (gran_ (some ⟨W0.heap.size, 0, none⟩) 1 [n] _ (slAtNew W0 [.int .i64 n] _) (by simp)).mono ?_; rw [hg]; rintro e w1 ⟨rfl, hx1⟩)
  have hxw := hid ((hx0.out.trans (Ext.alloc (Ext.refl _) _)).trans hx1)
  have HQ1 := hid (HQ.out.ext hxw.out)
  have hBx := (Ext.alloc (Ext.refl W0) (.cells #[.int .i64 n] 3)).trans hx1
  have hB1 : w1.cell? ⟨B, 0, none⟩ = some (.int .i64 n) := (hBx.cells B 0 hBl).trans hBc
  have hBl1 : B < w1.heap.size := Nat.lt_of_lt_of_le hBl hBx.size
  have hqB : q < B := by have := HQ.out.1; omega
  have HGB : Hid (∀ g, (Value.slice A l.length ca).ownBlock = some g → g < B) := hid (fun g e => by have := (HQ.out.2.2.2.1.lt g e).2; omega)
  clear hx0 hx1 hBc hBl hBx HQ
  have hidx : ∀ w', w1 = w' → Calls Tryd.prog 64 #[.slice A l.length ca, .func (.func 65) #[] #[.pointer (some ⟨B, 0, none⟩)]] w' fun e w'' => e = .returned (.int .i64 (-1)) ∧ Ext w' w'' := by
    rintro w' rfl
    have := idxP_ A ca B n l w1 (HQ1.out.2.2.2.1.rdP rfl) (by omega) ho hB1 hBl1
    rwa [hfa] at this
  replace hidx := hidx _ rfl
  have hq1 := HQ1.out.1
  have hq2 := HQ1.out.2.1.2.2
  go_wp2_with (go_at_call 64; refine Calls.mono hidx ?_; rintro e w2 ⟨rfl, hx2⟩)
  refine bodyPost_ret (v := .tuple #[.int .i64 0, .bool false]) (by simp [results, Tryd.results41, go_sem]) rfl ?_
  exact ⟨rfl, hxw.out.trans hx2⟩
set_option maxRecDepth 100000 in
set_option maxHeartbeats 4000000 in
theorem take_yes (q base : Nat) (fr to : Int) (v : Value) (l : List Pr) (w : World) (h : Fr w q base fr to v l) (hl : l.length ≤ 10000000) (ho : okF l) (n : Int) (hn : 1 ≤ n) (hg0 : g16 n = true) (k : Nat) (hk : k < l.length) (hf : l.findIdx? (fits n) = some k) : Calls Tryd.prog 41 #[.pointer (some ⟨q, 0, none⟩), .int .i64 n] w fun e w' => ∃ v', e = .returned (.tuple #[.int .i64 (l[k]).lo, .bool true]) ∧ Hid (Fr w' q base fr to v' (takeK l k n hk)) ∧ Hid (Only (tch q v) w w') ∧ (∀ g, v'.ownBlock = some g → v.ownBlock = some g) := by
  have hfa : fitAt n l = (k : Int) := by unfold fitAt; rw [hf]
  have hft : fits n l[k] = true := (List.findIdx?_eq_some_iff_getElem.1 hf).2.1
  have hnl : n ≤ (l[k]).len := of_decide_eq_true hft
  have hx1k := ho _ (List.getElem_mem hk)
  obtain ⟨A, ca, rfl, hca, hnil⟩ := h.2.2.2.1.shape
  have HQ := hid h
  clear h
  have hg : [n].all g16 = true := by simp [hg0]
  have hn1 : ¬ n < 1 := by omega
  go_enter Tryd.func41, Tryd.ntmps41
  go_upto_region 1 with (fail)
  refine wp_gen (fun W => Hid (Ext w W) ∧ Hid (W.cell? ⟨w.heap.size, 0, none⟩ = some (.int .i64 n)) ∧ w.heap.size < W.heap.size) ⟨hid (Ext.alloc (Ext.refl w) _), hid (by simp [go_sem]), by simp⟩ ?_
  rintro W0 ⟨hx0, hB0, hBl⟩
  have hBc := hB0.out
  obtain ⟨B, hBe⟩ : ∃ x, w.heap.size = x := ⟨_, rfl⟩
  rw [hBe] at hBc hBl ⊢
  clear hB0
  go_upto_region 3 with (go_at_call 51; refine (gran_ (some ⟨W0.heap.size, 0, none⟩) 1 [n] _ (slAtNew W0 [.int .i64 n] _) (by simp)).mono ?_; rw [hg]; rintro e w1 ⟨rfl, hx1⟩)
  have hxw := hid ((hx0.out.trans (Ext.alloc (Ext.refl _) _)).trans hx1)
  have HQ1 := hid (HQ.out.ext hxw.out)
  have hBx := (Ext.alloc (Ext.refl W0) (.cells #[.int .i64 n] 3)).trans hx1
  have hB1 : w1.cell? ⟨B, 0, none⟩ = some (.int .i64 n) := (hBx.cells B 0 hBl).trans hBc
  have hBl1 : B < w1.heap.size := Nat.lt_of_lt_of_le hBl hBx.size
  have hqB : q < B := by have := HQ.out.1; omega
  have HGB : Hid (∀ g, (Value.slice A l.length ca).ownBlock = some g → g < B) := hid (fun g e => by have := (HQ.out.2.2.2.1.lt g e).2; omega)
  clear hx0 hx1 hBc hBl hBx HQ
  have hidx : ∀ w', w1 = w' → Calls Tryd.prog 64 #[.slice A l.length ca, .func (.func 65) #[] #[.pointer (some ⟨B, 0, none⟩)]] w' fun e w'' => e = .returned (.int .i64 ((k : Int))) ∧ Ext w' w'' := by
    rintro w' rfl
    have := idxP_ A ca B n l w1 (HQ1.out.2.2.2.1.rdP rfl) (by omega) ho hB1 hBl1
    rwa [hfa] at this
  replace hidx := hidx _ rfl
  have hq1 := HQ1.out.1
  have hq2 := HQ1.out.2.1.2.2
  obtain ⟨g, a, rfl⟩ : ∃ g a, A = some ⟨g, a, none⟩ := by
    rcases HQ1.out.2.2.2.1.2 with ⟨_, h0⟩ | ⟨g, o, c, cur, e, _⟩
    · omega
    · simp only [Value.slice.injEq] at e
      exact ⟨g, _, e.1⟩
  have hgq : ¬ g = q := HQ1.out.2.2.2.2.2 g rfl
  have hqg : ¬ q = g := fun h => hgq h.symm
  have hgl : g < w1.heap.size := (HQ1.out.2.2.2.1.lt g rfl).2
  have hgB : ¬ g = B := fun h => by have := HGB.out g rfl; omega
  have hBg : ¬ B = g := fun h => hgB h.symm
  have k0 : ¬ (k : Int) < 0 := by omega
  have k1 : (k : Int) < (l.length : Int) := by omega
  have k2 : (0 : Int) ≤ (k : Int) := by omega
  go_upto_region 4 with (go_at_call 64; refine Calls.mono hidx ?_; rintro e w2 ⟨rfl, hx2⟩)
  clear hidx
  have HQ2 := hid (HQ1.out.ext hx2)
  have hxw2 := hid (hxw.out.trans hx2)
  have hB2 : w2.cell? ⟨B, 0, none⟩ = some (.int .i64 n) := (hx2.cells B 0 hBl1).trans hB1
  have hBl2 : B < w2.heap.size := Nat.lt_of_lt_of_le hBl1 hx2.size
  clear HQ1 hxw hB1 hBl1 hx2 hq1 hq2
  have hq1 := HQ2.out.1
  have hq2 := HQ2.out.2.1.2.2
  have hgl2 : g < w2.heap.size := (HQ2.out.2.2.2.1.lt g rfl).2
  obtain ⟨b', o', e', _, c0, c1⟩ := (HQ2.out.2.2.2.1.rdP rfl).two hk
  simp only [Option.some.injEq, Addr.mk.injEq, and_true] at e'
  obtain ⟨rfl, rfl⟩ := e'
  go_upto_region 7 with (fail)
  obtain ⟨xl, hxl⟩ : ∃ x, (l[k]).lo = x := ⟨_, rfl⟩
  obtain ⟨xh, hxh⟩ : ∃ x, (l[k]).hi = x := ⟨_, rfl⟩
  have hlen : (l[k]).len = xh - xl := by unfold Pr.len; rw [hxl, hxh]
  rw [hlen] at hnl
  rw [hxl] at c0 hx1k
  rw [hxh] at c1 hx1k
  have hTK : Hid (takeK l k n hk = if xh - xl = n then l.eraseIdx k else l.set k ⟨xl + n, xh⟩) := hid (by unfold takeK; rw [hlen, hxl, hxh])
  have HXL := hid hxl
  have HXH := hid hxh
  have hws : wrap64 (xl + n) = xl + n := wrapP (by omega) (by omega)
  obtain ⟨s, hs⟩ : ∃ s, xl + n = s := ⟨_, rfl⟩
  rw [hs] at hws hTK
  obtain ⟨d, hde⟩ : ∃ d, xh - s = d := ⟨_, rfl⟩
  have hd : wrap64 (xh - s) = d := by rw [hde]; exact wrapP (by omega) (by omega)
  have HD := hid hd
  have hnB := hBg
  clear hd hft hlen hxl hxh
  refine wp_region_turn (q := g) (.rd 0 (.rd 1 (.rd 2 (.rd 3 (.rd 4 (.rd 5 (.rd 6 (.rd 8 (.rd 10 (.ac 7 (.rd 9 (.rd 11 (.ac 12 .done))))))))))))) (by kernel_rfl) (by kernel_rfl) (fun _ _ d _ _ h => by cases d <;> exact h) (by simp only [Ord.map, nthOp, List.append]; rfl) ?_
  intro d0
  have hx0 : Ext w2 (Go.Proofs.YtoeiemeffiiidaaDoor.grow w2 d0) := Ext.grow (Ext.refl _) d0
  have HQ3 := hid (HQ2.out.ext hx0)
  have hxw3 := hid (hxw2.out.trans hx0)
  have hB3 := (hx0.cells B 0 hBl2).trans hB2
  have hBl3 := Nat.lt_of_lt_of_le hBl2 hx0.size
  have c03 := (hx0.cells g _ hgl2).trans c0
  have c13 := (hx0.cells g _ hgl2).trans c1
  have hgl3 := Nat.lt_of_lt_of_le hgl2 hx0.size
  generalize Go.Proofs.YtoeiemeffiiidaaDoor.grow w2 d0 = W at HQ3 hxw3 hB3 hBl3 c03 c13 hgl3 ⊢
  clear HQ2 hxw2 hB2 hBl2 c0 c1 hgl2 hx0 hq1 hq2
  have hq1 := HQ3.out.1
  have hq2 := HQ3.out.2.1.2.2
  have hfz : W.frozen? ⟨g, a + k * 2, none⟩ = false := by
    obtain ⟨_, _, e, _, _, _, hf⟩ := HQ3.out.2.2.2.1.at_ rfl (by omega)
    simp only [Option.some.injEq, Addr.mk.injEq, and_true] at e
    rw [e.1]
    exact hf _
  repeat' (first | (refine turn_read (by rfl) (fun K hK => ?_); go_big_quiet_op; refine hK _ ?_; clear hK K) | (refine turn_act (by rfl) (fun K hK => ?_); go_wp2_with fail; refine ⟨_, Only.refl _ _, (by first | exact Only.refl _ _ | exact Only.setCell (S := fun k => k = g) (Only.refl _ _) (.inl rfl) _), ?_⟩))
  refine turn_nil ?_
  have hO4 : Only (fun k => k = g) W (W.setCell ⟨g, a + k * 2, none⟩ (.int .i64 s)) := Only.setCell (S := fun k => k = g) (Only.refl _ _) (.inl rfl) _
  have hR4 : ownsAt (W.setCell ⟨g, a + k * 2, none⟩ (.int .i64 s)) base 95 2 (.slice (some ⟨g, a, none⟩) l.length ca) l.length (prList (l.set k ⟨s, xh⟩)) := by
    refine HQ3.out.2.2.2.1.putCell rfl (by rw [List.length_set]) (by omega) (fun j hj => ?_)
    have := prList_setLo l k s hk j hj
    rwa [HXH.out] at this
  obtain ⟨a0, a1, a2⟩ := HQ3.out.2.1
  obtain ⟨f0, f1, f2⟩ := HQ3.out.2.2.1
  have hqs := HQ3.out.1
  have hFr : ∀ W', Only (fun k => k = g) W W' → Hid ((W'.cell? ⟨q, 0, none⟩ = some (.int .i64 fr) ∧ W'.cell? ⟨q, 1, none⟩ = some (.int .i64 to) ∧ W'.cell? ⟨q, 2, none⟩ = some (.slice (some ⟨g, a, none⟩) l.length ca)) ∧ (W'.frozen? ⟨q, 0, none⟩ = false ∧ W'.frozen? ⟨q, 1, none⟩ = false ∧ W'.frozen? ⟨q, 2, none⟩ = false)) := fun W' x =>
    hid ⟨⟨(x.cells q 0 hqs hqg).trans a0, (x.cells q 1 hqs hqg).trans a1, (x.cells q 2 hqs hqg).trans a2⟩, ⟨(x.frozens q 0 hqs hqg).trans f0, (x.frozens q 1 hqs hqg).trans f1, (x.frozens q 2 hqs hqg).trans f2⟩⟩
  have hF4 := hFr _ hO4
  have HR4 := hid hR4
  have HO4 := hid hO4
  have hbq := HQ3.out.2.2.2.2.1
  have hbg := (HQ3.out.2.2.2.1.lt g rfl).1
  generalize W.setCell ⟨g, a + k * 2, none⟩ (.int .i64 s) = W4 at HR4 HO4 hF4 ⊢
  clear hR4 hO4 a0 a1 a2 f0 f1 f2 hFr hq1 hq2 hfz c03 c13 hB3
  have hxg : Hid (Only (tch q (.slice (some ⟨g, a, none⟩) l.length ca)) w W4) := hid (Only.trans' (Only.ofExt hxw3.out) (HO4.out.mono (fun i e => .inr (by subst e; rfl))))
  clear hxw3 HQ3
  have hq1 : q < W4.heap.size := Nat.lt_of_lt_of_le hqs HO4.out.size
  have hgl4 : g < W4.heap.size := Nat.lt_of_lt_of_le hgl3 HO4.out.size
  have hq2 := hF4.out.1.2.2
  have hks : k < (l.set k ⟨s, xh⟩).length := by rw [List.length_set]; exact hk
  have HR5 : Hid (RdP W4 (some ⟨g, a, none⟩) (l.set k ⟨s, xh⟩)) := hid (ownsAt.rdP HR4.out (by rw [List.length_set]))
  obtain ⟨b5, o5, e5, _, e0, e1⟩ := HR5.out.two hks
  simp only [Option.some.injEq, Addr.mk.injEq, and_true] at e5
  obtain ⟨e5a, e5b⟩ := e5
  rw [← e5a, ← e5b, List.getElem_set_self] at e0 e1
  clear e5a e5b HR5
  have hown : ∀ n' c' g', (Value.slice (some ⟨g, a, none⟩) n' c').ownBlock = some g' → g' = g := fun n' c' g' e => by simp only [Value.ownBlock, Option.some.injEq] at e; exact e.symm
  by_cases hdn : d = 0
  · have hne : xh - xl = n := by omega
    subst hdn
    obtain ⟨m, hm⟩ : ∃ m, l.length = m + 1 := ⟨l.length - 1, by omega⟩
    rw [hm] at HR4 hF4 hq2 hxg k1 ⊢
    have hm7 : m ≤ 10000000 := by omega
    have hkm : k ≤ m := by omega
    go_upto_region 9 with (go_at_call 66; refine (len_ ⟨s, xh⟩ 0 HD.out _).mono ?_; rintro e w5 ⟨rfl, hx5⟩)
    have HR5 := hid (HR4.out.ext hx5)
    have hq5 : q < w5.heap.size := Nat.lt_of_lt_of_le hq1 hx5.size
    have hq25 := (hx5.cells q 2 hq1).trans hq2
    have hfz5 := (hx5.frozens q 2 hq1).trans hF4.out.2.2.2
    have hF5 : Hid ((w5.cell? ⟨q, 0, none⟩ = some (.int .i64 fr) ∧ w5.cell? ⟨q, 1, none⟩ = some (.int .i64 to)) ∧ (w5.frozen? ⟨q, 0, none⟩ = false ∧ w5.frozen? ⟨q, 1, none⟩ = false)) := hid ⟨⟨(hx5.cells q 0 hq1).trans hF4.out.1.1, (hx5.cells q 1 hq1).trans hF4.out.1.2.1⟩, ⟨(hx5.frozens q 0 hq1).trans hF4.out.2.1, (hx5.frozens q 1 hq1).trans hF4.out.2.2.1⟩⟩
    have hx5' := hid (Only.transExt hxg.out hx5)
    clear HR4 hq1 hq2 hF4 hxg hx5 e0 e1 HO4 hgl4
    go_wp2_with (go_at_call 67; refine (edel_ base g a m ca k (l.set k ⟨s, xh⟩) _ HR5.out hkm (by omega)).mono ?_; rintro e w6 ⟨rfl, HR6, HO6⟩; have c26 := (HO6.out.cells q 2 hq5 hqg).trans hq25; have f26 := (HO6.out.frozens q 2 hq5 hqg).trans hfz5; have hq6 : q < w6.heap.size := Nat.lt_of_lt_of_le hq5 HO6.out.size)
    refine bodyPost_ret (v := .tuple #[.int .i64 (l[k]).lo, .bool true]) (by simp [results, Tryd.results41, go_sem]) rfl ?_
    have hx6 := Only.trans' hx5'.out (HO6.out.mono (T := tch q (.slice (some ⟨g, a, none⟩) (m + 1) ca)) (fun i e => .inr (by subst e; rfl)))
    have hS : ∀ u, Only (fun k => k = q) w6 (w6.setCell ⟨q, 2, none⟩ u) := fun u => Only.setCell (S := fun k => k = q) (Only.refl _ _) (.inl rfl) _
    have hq6 : q < w6.heap.size := Nat.lt_of_lt_of_le hq5 HO6.out.size
    have b0 := (HO6.out.cells q 0 hq5 hqg).trans hF5.out.1.1
    have b1 := (HO6.out.cells q 1 hq5 hqg).trans hF5.out.1.2
    have b2 := (HO6.out.frozens q 0 hq5 hqg).trans hF5.out.2.1
    have b3 := (HO6.out.frozens q 1 hq5 hqg).trans hF5.out.2.2
    have hle : (l.eraseIdx k).length = m := by rw [List.length_eraseIdx, if_pos hk]; omega
    refine ⟨.slice (some ⟨g, a, none⟩) m ca, rfl, hid ?_, hid (Only.setCell (S := tch q (.slice (some ⟨g, a, none⟩) (m + 1) ca)) hx6 (Or.inl (Or.inl rfl)) _), fun g' h' => h'⟩
    · rw [hTK.out, if_pos hne]
      refine ⟨by simpa using hq6, ⟨by simp [go_sem, b0], by simp [go_sem, b1], by simp [go_sem, c26]⟩, ⟨by simp [go_sem, b2], by simp [go_sem, b3], by simp [go_sem, f26]⟩, ?_, hbq, fun g' h' => (hown _ _ g' h') ▸ hgq⟩
      rw [hle]
      have := HR6.out.only (hS (.slice (some ⟨g, a, none⟩) m ca)) (fun g' h' => (hown _ _ g' h') ▸ hgq)
      rwa [List.eraseIdx_set_eq] at this
  · have hne : ¬ xh - xl = n := by omega
    go_wp2_with (go_at_call 66; refine (len_ ⟨s, xh⟩ d HD.out _).mono ?_; rintro e w5 ⟨rfl, hx5⟩)
    refine bodyPost_ret (v := .tuple #[.int .i64 (l[k]).lo, .bool true]) (by simp [results, Tryd.results41, go_sem]) rfl ?_
    have hFr4 : Fr W4 q base fr to (.slice (some ⟨g, a, none⟩) l.length ca) (l.set k ⟨s, xh⟩) := ⟨hq1, hF4.out.1, hF4.out.2, by rw [List.length_set]; exact HR4.out, hbq, fun g' h' => (hown _ _ g' h') ▸ hgq⟩
    refine ⟨_, rfl, hid ?_, hid (Only.transExt hxg.out hx5), fun g' h' => h'⟩
    rw [hTK.out, if_neg hne]
    exact hFr4.ext hx5
end Go.Proofs.YtoeiemeffiiidaaDoor

namespace Go.Proofs.YtoeiemeffiiidaaDoor
set_option maxRecDepth 100000
set_option linter.unusedSimpArgs false
set_option linter.unusedVariables false
open Go.RowKit

/-- The run at i, and the one ahead of it, are one if they are beside one another. -/
def joinL (l : List Pr) (i : Nat) : List Pr := if h : 1 ≤ i ∧ i < l.length then (if (l[i - 1]).hi = (l[i]).lo then (l.set (i - 1) ⟨(l[i - 1]).lo, (l[i]).hi⟩).eraseIdx i else l) else l
set_option maxRecDepth 100000 in
set_option maxHeartbeats 4000000 in
theorem join_1 (q base : Nat) (fr to : Int) (v : Value) (l : List Pr) (w : World) (h : Fr w q base fr to v l) (i : Nat) (hi : i < 1) : Calls Tryd.prog 62 #[.pointer (some ⟨q, 0, none⟩), .int .i64 i] w fun e w' => e = .returned (.tuple #[]) ∧ ∃ v', Hid (Fr w' q base fr to v' (joinL l i)) ∧ Hid (Only (tch q v) w w') ∧ (∀ g, v'.ownBlock = some g → v.ownBlock = some g) := by
  have hJ : joinL l i = l := by unfold joinL; rw [dif_neg (by omega)]
  have k0 : (i : Int) < 1 := by omega
  have HJ := hid hJ
  clear hJ
  obtain ⟨A, ca, rfl, hca, hnil⟩ := h.2.2.2.1.shape
  have HQ := hid h
  have hq1 := h.1
  have hq2 := h.2.1.2.2
  clear h
  go_enter Tryd.func62, Tryd.ntmps62
  go_upto_region 0 with (fail)
  refine wp_region_grow (by kernel_rfl) (by kernel_rfl) (by first | (simp only [List.append]; rfl) | rfl) ?_
  (repeat (go_big_quiet_step (fail)))
  refine wpQuiet_nil ?_
  intro wq hq
  obtain ⟨d, rfl⟩ := hq
  go_wp2
  refine bodyPost_ret (v := .tuple #[]) (by simp [results, Tryd.results62, go_sem]) rfl ?_
  refine ⟨rfl, _, hid (by rw [HJ.out]; exact HQ.out.ext (Ext.grow (Ext.refl _) d)), hid (Only.ofExt (Ext.grow (Ext.refl _) d)), fun g h => h⟩
theorem join_2 (q base : Nat) (fr to : Int) (v : Value) (l : List Pr) (w : World) (h : Fr w q base fr to v l) (i : Nat) (hi : 1 ≤ i) (hl : l.length ≤ i) : Calls Tryd.prog 62 #[.pointer (some ⟨q, 0, none⟩), .int .i64 i] w fun e w' => e = .returned (.tuple #[]) ∧ ∃ v', Hid (Fr w' q base fr to v' (joinL l i)) ∧ Hid (Only (tch q v) w w') ∧ (∀ g, v'.ownBlock = some g → v.ownBlock = some g) := by
  have hJ : joinL l i = l := by unfold joinL; rw [dif_neg (by omega)]
  have k0 : ¬ (i : Int) < 1 := by omega
  have k1 : (l.length : Int) ≤ (i : Int) := by omega
  have HJ := hid hJ
  clear hJ
  obtain ⟨A, ca, rfl, hca, hnil⟩ := h.2.2.2.1.shape
  have HQ := hid h
  have hq1 := h.1
  have hq2 := h.2.1.2.2
  clear h
  go_enter Tryd.func62, Tryd.ntmps62
  go_upto_region 0 with (fail)
  refine wp_region_grow (by kernel_rfl) (by kernel_rfl) (by first | (simp only [List.append]; rfl) | rfl) ?_
  (repeat (go_big_quiet_step (fail)))
  refine wpQuiet_nil ?_
  intro wq hq
  obtain ⟨d, rfl⟩ := hq
  go_wp2
  refine bodyPost_ret (v := .tuple #[]) (by simp [results, Tryd.results62, go_sem]) rfl ?_
  refine ⟨rfl, _, hid (by rw [HJ.out]; exact HQ.out.ext (Ext.grow (Ext.refl _) d)), hid (Only.ofExt (Ext.grow (Ext.refl _) d)), fun g h => h⟩
set_option maxRecDepth 100000 in
set_option maxHeartbeats 4000000 in
theorem join_3 (q base : Nat) (fr to : Int) (v : Value) (l : List Pr) (w : World) (h : Fr w q base fr to v l) (i m : Nat) (hmi : m < l.length) (him : i = m + 1) (hm : i < l.length) (hl9 : l.length ≤ 100000000) (hne : ¬ (l[m]).hi = (l[i]).lo) : Calls Tryd.prog 62 #[.pointer (some ⟨q, 0, none⟩), .int .i64 i] w fun e w' => e = .returned (.tuple #[]) ∧ ∃ v', Hid (Fr w' q base fr to v' (joinL l i)) ∧ Hid (Only (tch q v) w w') ∧ (∀ g, v'.ownBlock = some g → v.ownBlock = some g) := by
  have hJ : joinL l i = l := by
    subst him
    unfold joinL
    rw [dif_pos ⟨by omega, hm⟩, if_neg (by simpa using hne)]
  have HJ := hid hJ
  clear hJ
  obtain ⟨A, ca, rfl, hca, hnil⟩ := h.2.2.2.1.shape
  have HQ := hid h
  have hq1 := h.1
  have hq2 := h.2.1.2.2
  clear h
  obtain ⟨g, a, rfl⟩ : ∃ g a, A = some ⟨g, a, none⟩ := by
    rcases HQ.out.2.2.2.1.2 with ⟨_, h0⟩ | ⟨g, o, c, cur, e, _⟩
    · omega
    · simp only [Value.slice.injEq] at e
      exact ⟨g, _, e.1⟩
  have hgq : ¬ g = q := HQ.out.2.2.2.2.2 g rfl
  have hqg : ¬ q = g := fun h => hgq h.symm
  have hgl : g < w.heap.size := (HQ.out.2.2.2.1.lt g rfl).2
  have k0 : ¬ (i : Int) < 1 := by omega
  have k1 : (i : Int) < (l.length : Int) := by omega
  have k1b : ¬ (l.length : Int) ≤ (i : Int) := by omega
  have k2 : (0 : Int) ≤ (m : Int) := by omega
  have k3 : (0 : Int) ≤ (i : Int) := by omega
  have k4 : (m : Int) < (l.length : Int) := by omega
  have k6 : (i : Int) - 1 = (m : Int) := by omega
  have k7 : wrap64 (i : Int) = (i : Int) := wrapP (by omega) (by omega)
  have k8 : wrap64 (m : Int) = (m : Int) := wrapP (by omega) (by omega)
  obtain ⟨b', o', e', _, c0, c1⟩ := (HQ.out.2.2.2.1.rdP rfl).two (k := m) hmi
  simp only [Option.some.injEq, Addr.mk.injEq, and_true] at e'
  obtain ⟨e1, e2⟩ := e'
  rw [← e1, ← e2] at c0 c1
  clear e1 e2
  obtain ⟨b', o', e', _, c2, c3⟩ := (HQ.out.2.2.2.1.rdP rfl).two (k := i) hm
  simp only [Option.some.injEq, Addr.mk.injEq, and_true] at e'
  obtain ⟨e1, e2⟩ := e'
  rw [← e1, ← e2] at c2 c3
  clear e1 e2
  obtain ⟨x0, hx0⟩ : ∃ x, (l[m]).lo = x := ⟨_, rfl⟩
  obtain ⟨x1, hx1⟩ : ∃ x, (l[m]).hi = x := ⟨_, rfl⟩
  obtain ⟨y0, hy0⟩ : ∃ x, (l[i]).lo = x := ⟨_, rfl⟩
  obtain ⟨y1, hy1⟩ : ∃ x, (l[i]).hi = x := ⟨_, rfl⟩
  rw [hx0] at c0
  rw [hx1] at c1
  rw [hy0] at c2
  rw [hy1] at c3
  have HIM := hid him
  clear him
  rw [hx1, hy0] at hne
  clear hx0 hx1 hy0 hy1
  go_enter Tryd.func62, Tryd.ntmps62
  go_upto_region 0 with (fail)
  refine wp_region_grow (by kernel_rfl) (by kernel_rfl) (by first | (simp only [List.append]; rfl) | rfl) ?_
  (repeat (go_big_quiet_step (fail)))
  refine wpQuiet_nil ?_
  intro wq hq
  obtain ⟨d, rfl⟩ := hq
  go_wp2
  refine bodyPost_ret (v := .tuple #[]) (by simp [results, Tryd.results62, go_sem]) rfl ?_
  refine ⟨rfl, _, hid (by rw [HJ.out]; exact HQ.out.ext (Ext.grow (Ext.refl _) d)), hid (Only.ofExt (Ext.grow (Ext.refl _) d)), fun g h => h⟩
set_option maxRecDepth 100000 in
set_option maxHeartbeats 4000000 in
theorem join_4 (q base : Nat) (fr to : Int) (v : Value) (l : List Pr) (w : World) (h : Fr w q base fr to v l) (i m : Nat) (hmi : m < l.length) (him : i = m + 1) (hm : i < l.length) (hl9 : l.length ≤ 100000000) (heq : (l[m]).hi = (l[i]).lo) : Calls Tryd.prog 62 #[.pointer (some ⟨q, 0, none⟩), .int .i64 i] w fun e w' => e = .returned (.tuple #[]) ∧ ∃ v', Hid (Fr w' q base fr to v' (joinL l i)) ∧ Hid (Only (tch q v) w w') ∧ (∀ g, v'.ownBlock = some g → v.ownBlock = some g) := by
  have hJ : joinL l i = (l.set m ⟨(l[m]).lo, (l[i]).hi⟩).eraseIdx i := by
    subst him
    unfold joinL
    rw [dif_pos ⟨by omega, hm⟩, if_pos (by simpa using heq)]
    rfl
  have HJ := hid hJ
  clear hJ
  obtain ⟨A, ca, rfl, hca, hnil⟩ := h.2.2.2.1.shape
  have HQ := hid h
  have hq1 := h.1
  have hq2 := h.2.1.2.2
  clear h
  obtain ⟨g, a, rfl⟩ : ∃ g a, A = some ⟨g, a, none⟩ := by
    rcases HQ.out.2.2.2.1.2 with ⟨_, h0⟩ | ⟨g, o, c, cur, e, _⟩
    · omega
    · simp only [Value.slice.injEq] at e
      exact ⟨g, _, e.1⟩
  have hgq : ¬ g = q := HQ.out.2.2.2.2.2 g rfl
  have hqg : ¬ q = g := fun h => hgq h.symm
  have hgl : g < w.heap.size := (HQ.out.2.2.2.1.lt g rfl).2
  have k0 : ¬ (i : Int) < 1 := by omega
  have k1 : (i : Int) < (l.length : Int) := by omega
  have k1b : ¬ (l.length : Int) ≤ (i : Int) := by omega
  have k2 : (0 : Int) ≤ (m : Int) := by omega
  have k3 : (0 : Int) ≤ (i : Int) := by omega
  have k4 : (m : Int) < (l.length : Int) := by omega
  have k6 : (i : Int) - 1 = (m : Int) := by omega
  have k7 : wrap64 (i : Int) = (i : Int) := wrapP (by omega) (by omega)
  have k8 : wrap64 (m : Int) = (m : Int) := wrapP (by omega) (by omega)
  obtain ⟨b', o', e', _, c0, c1⟩ := (HQ.out.2.2.2.1.rdP rfl).two (k := m) hmi
  simp only [Option.some.injEq, Addr.mk.injEq, and_true] at e'
  obtain ⟨e1, e2⟩ := e'
  rw [← e1, ← e2] at c0 c1
  clear e1 e2
  obtain ⟨b', o', e', _, c2, c3⟩ := (HQ.out.2.2.2.1.rdP rfl).two (k := i) hm
  simp only [Option.some.injEq, Addr.mk.injEq, and_true] at e'
  obtain ⟨e1, e2⟩ := e'
  rw [← e1, ← e2] at c2 c3
  clear e1 e2
  obtain ⟨x0, hx0⟩ : ∃ x, (l[m]).lo = x := ⟨_, rfl⟩
  obtain ⟨x1, hx1⟩ : ∃ x, (l[m]).hi = x := ⟨_, rfl⟩
  obtain ⟨y0, hy0⟩ : ∃ x, (l[i]).lo = x := ⟨_, rfl⟩
  obtain ⟨y1, hy1⟩ : ∃ x, (l[i]).hi = x := ⟨_, rfl⟩
  rw [hx0] at c0
  rw [hx1] at c1
  rw [hy0] at c2
  rw [hy1] at c3
  have HIM := hid him
  clear him
  rw [hx1, hy0] at heq
  rw [hx0, hy1] at HJ
  have HX0 := hid hx0
  clear hx0 hx1 hy0 hy1
  subst heq
  have hm1 : m + 1 ≤ l.length := hmi
  obtain ⟨L, hL⟩ : ∃ L, l.length = L + 1 := ⟨l.length - 1, by omega⟩
  have HL := hid hL
  clear hL
  go_enter Tryd.func62, Tryd.ntmps62
  go_upto_region 0 with (fail)
  refine wp_region_grow (by kernel_rfl) (by kernel_rfl) (by first | (simp only [List.append]; rfl) | rfl) ?_
  (repeat (go_big_quiet_step (fail)))
  refine wpQuiet_nil ?_
  intro wq hq
  obtain ⟨d, rfl⟩ := hq
  go_upto_region 1 with (fail)
  refine wp_gen (fun W => Hid (Ext w W)) (hid (Ext.grow (Ext.refl _) d)) ?_
  rintro W0 hx0
  have HQ1 := hid (HQ.out.ext hx0.out)
  have hq1' : q < W0.heap.size := Nat.lt_of_lt_of_le hq1 hx0.out.size
  have hgl1 : g < W0.heap.size := Nat.lt_of_lt_of_le hgl hx0.out.size
  refine wp_region_turn (q := g) (.rd 0 (.rd 1 (.rd 2 (.rd 3 (.rd 4 (.rd 5 (.rd 6 (.rd 7 (.rd 8 (.rd 9 (.rd 10 (.rd 11 (.rd 12 (.rd 14 (.ac 13 (.rd 15 (.ac 16 .done))))))))))))))))) (by kernel_rfl) (by kernel_rfl) (fun _ _ d _ _ h => by cases d <;> exact h) (by simp only [Ord.map, nthOp, List.append]; rfl) ?_
  intro d0
  have hx1 : Ext W0 (Go.Proofs.YtoeiemeffiiidaaDoor.grow W0 d0) := Ext.grow (Ext.refl _) d0
  have HQ3 := hid (HQ1.out.ext hx1)
  have hxw3 := hid (hx0.out.trans hx1)
  have c33 := (hxw3.out.cells g _ hgl).trans c3
  have c13 := (hxw3.out.cells g _ hgl).trans c1
  have hgl3 := Nat.lt_of_lt_of_le hgl1 hx1.size
  generalize Go.Proofs.YtoeiemeffiiidaaDoor.grow W0 d0 = W at HQ3 hxw3 c33 c13 hgl3 ⊢
  clear HQ HQ1 hx0 hx1 c0 c1 c2 c3 hq1 hq2 hq1' hgl1
  have hq1 := HQ3.out.1
  have hq2 := HQ3.out.2.1.2.2
  have hfz : ∀ j, W.frozen? ⟨g, j, none⟩ = false := by
    obtain ⟨_, _, e, _, _, _, hf⟩ := HQ3.out.2.2.2.1.at_ rfl (by omega)
    simp only [Option.some.injEq, Addr.mk.injEq, and_true] at e
    rw [e.1]
    exact hf
  have hfz1 := hfz (a + m * 2 + 1)
  clear hfz
  repeat' (first | (refine turn_read (by rfl) (fun K hK => ?_); go_big_quiet_op; refine hK _ ?_; clear hK K) | (refine turn_act (by rfl) (fun K hK => ?_); go_wp2_with fail; refine ⟨_, Only.refl _ _, (by first | exact Only.refl _ _ | exact Only.setCell (S := fun k => k = g) (Only.refl _ _) (.inl rfl) _), ?_⟩))
  refine turn_nil ?_
  have hO4 : Only (fun k => k = g) W (W.setCell ⟨g, a + m * 2 + 1, none⟩ (.int .i64 y1)) := Only.setCell (S := fun k => k = g) (Only.refl _ _) (.inl rfl) _
  have hR4 : ownsAt (W.setCell ⟨g, a + m * 2 + 1, none⟩ (.int .i64 y1)) base 95 2 (.slice (some ⟨g, a, none⟩) l.length ca) l.length (prList (l.set m ⟨x0, y1⟩)) := by
    have := HQ3.out.2.2.2.1.putCell (m := l.set m ⟨x0, y1⟩) (off := m * 2 + 1) (u := .int .i64 y1) rfl (by rw [List.length_set]) (by omega) (fun j hj => ?_)
    · exact this
    have := prList_setHi l m y1 hmi j hj
    rwa [HX0.out] at this
  obtain ⟨a0, a1, a2⟩ := HQ3.out.2.1
  obtain ⟨f0, f1, f2⟩ := HQ3.out.2.2.1
  have hqs := HQ3.out.1
  have hFr : ∀ W', Only (fun k => k = g) W W' → Hid ((W'.cell? ⟨q, 0, none⟩ = some (.int .i64 fr) ∧ W'.cell? ⟨q, 1, none⟩ = some (.int .i64 to) ∧ W'.cell? ⟨q, 2, none⟩ = some (.slice (some ⟨g, a, none⟩) l.length ca)) ∧ (W'.frozen? ⟨q, 0, none⟩ = false ∧ W'.frozen? ⟨q, 1, none⟩ = false ∧ W'.frozen? ⟨q, 2, none⟩ = false)) := fun W' x =>
    hid ⟨⟨(x.cells q 0 hqs hqg).trans a0, (x.cells q 1 hqs hqg).trans a1, (x.cells q 2 hqs hqg).trans a2⟩, ⟨(x.frozens q 0 hqs hqg).trans f0, (x.frozens q 1 hqs hqg).trans f1, (x.frozens q 2 hqs hqg).trans f2⟩⟩
  have hF4 := hFr _ hO4
  have HR4 := hid hR4
  have HO4 := hid hO4
  have hbq := HQ3.out.2.2.2.2.1
  generalize W.setCell ⟨g, a + m * 2 + 1, none⟩ (.int .i64 y1) = W4 at HR4 HO4 hF4 ⊢
  clear hR4 hO4 a0 a1 a2 f0 f1 f2 hFr hq1 hq2 hfz1 c33 c13
  have hxg : Hid (Only (tch q (.slice (some ⟨g, a, none⟩) l.length ca)) w W4) := hid (Only.trans' (Only.ofExt hxw3.out) (HO4.out.mono (fun i e => .inr (by subst e; rfl))))
  clear hxw3 HQ3
  have hq1 : q < W4.heap.size := Nat.lt_of_lt_of_le hqs HO4.out.size
  have hown : ∀ n' c' g', (Value.slice (some ⟨g, a, none⟩) n' c').ownBlock = some g' → g' = g := fun n' c' g' e => by simp only [Value.ownBlock, Option.some.injEq] at e; exact e.symm
  rw [HL.out] at HR4 hF4 ⊢
  have hq2 := hF4.out.1.2.2
  have hf2 := hF4.out.2.2.2
  have hiL : i ≤ L := by have := HL.out; omega
  have hL9 : L ≤ 100000000 := by have := HL.out; omega
  clear k1 k1b k4
  go_wp2_with (go_at_call 67; refine (edel_ base g a L ca i (l.set m ⟨x0, y1⟩) _ HR4.out hiL (by omega)).mono ?_; rintro e w6 ⟨rfl, HR6, HO6⟩; have c26 := (HO6.out.cells q 2 hq1 hqg).trans hq2; have f26 := (HO6.out.frozens q 2 hq1 hqg).trans hf2; have hq6 : q < w6.heap.size := Nat.lt_of_lt_of_le hq1 HO6.out.size)
  refine bodyPost_end (v := .tuple #[]) (by simp [results, Tryd.results62, go_sem]) rfl ?_
  have hx6 := Only.trans' hxg.out (HO6.out.mono (T := tch q (.slice (some ⟨g, a, none⟩) l.length ca)) (fun i e => .inr (by subst e; rfl)))
  have hS : ∀ u, Only (fun k => k = q) w6 (w6.setCell ⟨q, 2, none⟩ u) := fun u => Only.setCell (S := fun k => k = q) (Only.refl _ _) (.inl rfl) _
  have b0 := (HO6.out.cells q 0 hq1 hqg).trans hF4.out.1.1
  have b1 := (HO6.out.cells q 1 hq1 hqg).trans hF4.out.1.2.1
  have b2 := (HO6.out.frozens q 0 hq1 hqg).trans hF4.out.2.1
  have b3 := (HO6.out.frozens q 1 hq1 hqg).trans hF4.out.2.2.1
  have hle : ((l.set m ⟨x0, y1⟩).eraseIdx i).length = L := by rw [List.length_eraseIdx, List.length_set, if_pos hm, HL.out]; omega
  refine ⟨rfl, .slice (some ⟨g, a, none⟩) L ca, hid ?_, hid (Only.setCell (S := tch q (.slice (some ⟨g, a, none⟩) l.length ca)) hx6 (Or.inl (Or.inl rfl)) _), fun g' h' => h'⟩
  rw [HJ.out]
  refine ⟨by simpa using hq6, ⟨by simp [go_sem, b0], by simp [go_sem, b1], by simp [go_sem, c26]⟩, ⟨by simp [go_sem, b2], by simp [go_sem, b3], by simp [go_sem, f26]⟩, ?_, hbq, fun g' h' => (hown _ _ g' h') ▸ hgq⟩
  rw [hle]
  exact HR6.out.only (hS (.slice (some ⟨g, a, none⟩) L ca)) (fun g' h' => (hown _ _ g' h') ▸ hgq)
end Go.Proofs.YtoeiemeffiiidaaDoor

namespace Go.Proofs.YtoeiemeffiiidaaDoor
set_option maxRecDepth 100000
set_option linter.unusedSimpArgs false
set_option linter.unusedVariables false
open Go.RowKit

theorem join_ (q base : Nat) (fr to : Int) (v : Value) (l : List Pr) (w : World) (h : Fr w q base fr to v l) (i : Nat) (hl9 : l.length ≤ 100000000) : Calls Tryd.prog 62 #[.pointer (some ⟨q, 0, none⟩), .int .i64 i] w fun e w' => e = .returned (.tuple #[]) ∧ ∃ v', Hid (Fr w' q base fr to v' (joinL l i)) ∧ Hid (Only (tch q v) w w') ∧ (∀ g, v'.ownBlock = some g → v.ownBlock = some g) := by
  by_cases h1 : i < 1
  · exact join_1 q base fr to v l w h i h1
  · by_cases h2 : l.length ≤ i
    · exact join_2 q base fr to v l w h i (by omega) h2
    · by_cases h3 : (l[i - 1]'(by omega)).hi = (l[i]'(by omega)).lo
      · exact join_4 q base fr to v l w h i (i - 1) (by omega) (by omega) (by omega) hl9 h3
      · exact join_3 q base fr to v l w h i (i - 1) (by omega) (by omega) (by omega) hl9 h3
set_option maxRecDepth 100000 in
set_option maxHeartbeats 4000000 in
theorem give1_ (q base : Nat) (fr to : Int) (v : Value) (l : List Pr) (w : World) (h : Fr w q base fr to v l) (BF BA : Nat) (at_ : Int) (hF : w.cell? ⟨BF, 0, none⟩ = some (.pointer (some ⟨q, 0, none⟩))) (hA : w.cell? ⟨BA, 0, none⟩ = some (.int .i64 at_)) (hf : BF < w.heap.size) (ha : BA < w.heap.size) (j : Nat) (hj : j < l.length) :
    Calls Tryd.prog 60 #[.int .i64 j, .pointer (some ⟨BF, 0, none⟩), .pointer (some ⟨BA, 0, none⟩)] w fun e w' => e = .returned (.bool (decide (at_ < (l[j]).hi))) ∧ Ext w w' := by
  obtain ⟨A, ca, rfl, hca, hnil⟩ := h.2.2.2.1.shape
  obtain ⟨b, o, rfl, hb, _, c1⟩ := (h.2.2.2.1.rdP rfl).two hj
  have hq1 := h.1
  have hq2 := h.2.1.2.2
  have k0 : (0 : Int) ≤ (j : Int) := by omega
  have k1 : (j : Int) < (l.length : Int) := by omega
  clear h
  generalize (l[j]).hi = y at c1
  go_enter Tryd.func60, Tryd.ntmps60
  go_upto_region 1 with (fail)
  refine wp_region_grow (by kernel_rfl) (by kernel_rfl) (by first | (simp only [List.append]; rfl) | rfl) ?_
  (repeat (go_big_quiet_step (fail)))
  refine wpQuiet_nil ?_
  intro wq hq
  obtain ⟨d, rfl⟩ := hq
  go_wp2
  go_ret
  exact ⟨rfl, (by repeat (first | (with_reducible exact Ext.refl _) | (with_reducible refine Ext.undrew ?_) | (with_reducible refine Ext.grow ?_ _) | (with_reducible refine Ext.drew ?_) | (with_reducible refine Ext.drewN ?_ _) | (with_reducible refine Ext.alloc ?_ _) | (with_reducible assumption) | ((with_reducible refine Ext.setCell ?_ ?_ _); rotate_left; (first | exact Nat.le_refl _ | ((try dsimp only); (try simp only [World.size_alloc, grow_size, World.size_setCell]); omega)))))⟩
set_option maxRecDepth 100000 in
set_option maxHeartbeats 4000000 in
theorem search_ (q base : Nat) (fr to : Int) (v : Value) (l : List Pr) (w : World) (h : Fr w q base fr to v l) (BF BA : Nat) (at_ : Int) (hF : w.cell? ⟨BF, 0, none⟩ = some (.pointer (some ⟨q, 0, none⟩))) (hA : w.cell? ⟨BA, 0, none⟩ = some (.int .i64 at_)) (hf : BF < w.heap.size) (ha : BA < w.heap.size) (hl : l.length ≤ 100000000)
    (hmono : ∀ (a b : Nat) (hb : b < l.length) (hab : a ≤ b), at_ < (l[a]'(by omega)).hi → at_ < (l[b]).hi) :
    Calls Tryd.prog 59 #[.int .i64 l.length, .func (.func 60) #[] #[.pointer (some ⟨BF, 0, none⟩), .pointer (some ⟨BA, 0, none⟩)]] w fun e w' => ∃ k : Nat, e = .returned (.int .i64 k) ∧ k ≤ l.length ∧ (∀ (j : Nat) (hj : j < l.length), j < k → (l[j]).hi ≤ at_) ∧ (∀ hk : k < l.length, at_ < (l[k]).hi) ∧ Ext w w' := by
  have HQ := hid h
  have HM := hid hmono
  have HF := hid hF
  have HA := hid hA
  clear h hmono hF hA
  have hfn : ∀ args w', Sem.run Tryd.prog (callFunc 60 args) w' = .ok (.enter 60 args) w' := fun args w' => enterOf Tryd.func60 (by kernel_rfl) (by kernel_rfl) _ _
  go_enter Tryd.func59, Tryd.ntmps59
  go_wp2
  go_loopw [5, 6] (fun x y wr => ∃ a b : Nat, a ≤ b ∧ b ≤ l.length ∧ x = .int .i64 a ∧ y = .int .i64 b ∧ Hid (∀ (j : Nat) (hj : j < l.length), j < a → (l[j]).hi ≤ at_) ∧ Hid (∀ (j : Nat) (hj : j < l.length), b ≤ j → at_ < (l[j]).hi) ∧ Ext w wr) (fun x y _ => (intOf y).toNat - (intOf x).toNat)
  case atStart => exact ⟨0, l.length, Nat.zero_le _, Nat.le_refl _, rfl, rfl, hid (fun j _ h => absurd h (by omega)), hid (fun j hj h => absurd h (by omega)), (by repeat (first | (with_reducible exact Ext.refl _) | (with_reducible refine Ext.undrew ?_) | (with_reducible refine Ext.grow ?_ _) | (with_reducible refine Ext.drew ?_) | (with_reducible refine Ext.drewN ?_ _) | (with_reducible refine Ext.alloc ?_ _) | (with_reducible assumption) | ((with_reducible refine Ext.setCell ?_ ?_ _); rotate_left; (first | exact Nat.le_refl _ | ((try dsimp only); (try simp only [World.size_alloc, grow_size, World.size_setCell]); omega)))))⟩
  case round =>
    obtain ⟨a, b, hab, hbl, rfl, rfl, HP, HN, hx⟩ := hrel
    by_cases hlt : a < b
    · have hk1 : (a : Int) < (b : Int) := by omega
      obtain ⟨m, hm⟩ : ∃ m, (a + b) / 2 = m := ⟨_, rfl⟩
      have hml : m < l.length := by omega
      have ham : a ≤ m := by omega
      have hmb : m < b := by omega
      have hsum : wrap64 ((a : Int) + (b : Int)) = (a : Int) + (b : Int) := wrapP (by omega) (by omega)
      have hmi : ((a : Int) + (b : Int)) / 2 = (m : Int) := by omega
      clear hm hsum
      have hG := hid (give1_ q base fr to v l wr (HQ.out.ext hx) BF BA at_ ((hx.cells BF 0 hf).trans HF.out) ((hx.cells BA 0 ha).trans HA.out) (Nat.lt_of_lt_of_le hf hx.size) (Nat.lt_of_lt_of_le ha hx.size) m hml)
      by_cases hp : at_ < (l[m]).hi
      · rw [decide_eq_true hp] at hG
        go_wp2_with (refine hG.out.mono ?_; rintro e w1 ⟨rfl, hy⟩)
        go_roundw
        case rel => exact ⟨a, m, ham, by omega, rfl, rfl, HP, hid (fun j hj h => HM.out m j hj h hp), hx.trans hy⟩
        case measure => simp [intOf]; omega
      · rw [decide_eq_false hp] at hG
        go_wp2_with (refine hG.out.mono ?_; rintro e w1 ⟨rfl, hy⟩)
        go_roundw
        case rel => exact ⟨m + 1, b, by omega, hbl, by go_num, rfl, hid (fun j hj h => Int.not_lt.1 (fun hh => absurd (HM.out j m hml (by omega) hh) (by omega))), HN, hx.trans hy⟩
        case measure => simp [intOf]; omega
    · obtain rfl : a = b := by omega
      have hk1 : ¬ (a : Int) < (a : Int) := by omega
      go_wp2
      go_ret
      exact ⟨a, rfl, hbl, HP.out, fun hk => HN.out a hk (Nat.le_refl _), hx⟩
end Go.Proofs.YtoeiemeffiiidaaDoor

namespace Go.Proofs.YtoeiemeffiiidaaDoor
set_option maxRecDepth 100000
set_option linter.unusedSimpArgs false
set_option linter.unusedVariables false
open Go.RowKit

/-- Reads alone, one behind the other. -/
inductive IsOrd : Ord Oper → List Oper → Prop
  | nil : IsOrd .done []
  | cons {o : Oper} {r : Ord Oper} {l : List Oper} (h : IsOrd r l) : IsOrd (.rd o r) (o :: l)
theorem step_quiet {P : Program} {ops : Array Oper} {Q : Exit → Act → World → Prop} {W w : World} {r : Ord Oper} {l : List Oper} (hr : IsOrd r l) : ∀ {a : Act}, wpQuiet P ops (Grown W) (fun a' => Q .normal a' w) l a → wpStep P ops Q r W a w := by
  induction hr with
  | nil => exact fun h => h
  | @cons o r l hr ih =>
    intro a h
    unfold wpQuiet at h
    unfold wpStep
    split
    · rename_i hc
      rw [if_pos hc] at h
      obtain ⟨v, h1, h2⟩ := h
      exact ⟨v, h1, ih h2⟩
    · rename_i hc
      rw [if_neg hc] at h
      exact ih h
set_option maxRecDepth 100000 in
set_option maxHeartbeats 4000000 in
theorem give_n1 (q base : Nat) (fr to : Int) (v : Value) (l : List Pr) (w : World) (h : Fr w q base fr to v l) (at_ n : Int) (hg : [at_, n].all g16 = false) : Calls Tryd.prog 39 #[.pointer (some ⟨q, 0, none⟩), .int .i64 at_, .int .i64 n] w fun e w' => e = .returned (.bool false) ∧ Ext w w' := by
  obtain ⟨A, ca, rfl, hca, hnil⟩ := h.2.2.2.1.shape
  have HQ := hid h
  have hqw := h.1
  clear h
  have HG := hid hg
  clear hg
  go_enter Tryd.func39, Tryd.ntmps39
  go_upto_region 1 with (fail)
  refine wp_gen (fun W => Hid (Ext w W) ∧ Hid (W.cell? ⟨w.heap.size, 0, none⟩ = some (.pointer (some ⟨q, 0, none⟩))) ∧ Hid (W.cell? ⟨w.heap.size + 1, 0, none⟩ = some (.int .i64 at_)) ∧ w.heap.size + 1 < W.heap.size) ⟨hid (by repeat (first | (with_reducible exact Ext.refl _) | (with_reducible refine Ext.undrew ?_) | (with_reducible refine Ext.grow ?_ _) | (with_reducible refine Ext.drew ?_) | (with_reducible refine Ext.drewN ?_ _) | (with_reducible refine Ext.alloc ?_ _) | (with_reducible assumption) | ((with_reducible refine Ext.setCell ?_ ?_ _); rotate_left; (first | exact Nat.le_refl _ | ((try dsimp only); (try simp only [World.size_alloc, grow_size, World.size_setCell]); omega))))), hid (by simp [go_sem]), hid (by simp [go_sem]), by simp⟩ ?_
  rintro W0 ⟨hx0, hF0, hA0, hBl⟩
  obtain ⟨BF, hBF⟩ : ∃ x, w.heap.size = x := ⟨_, rfl⟩
  obtain ⟨BA, hBA⟩ : ∃ x, w.heap.size + 1 = x := ⟨_, rfl⟩
  rw [hBF] at hF0 ⊢
  rw [hBF] at hBA hBl
  rw [← hBF] at hBA
  (try rw [hBF] at hBA)
  rw [hBA] at hBl ⊢
  have hA0 : Hid (W0.cell? ⟨BA, 0, none⟩ = some (.int .i64 at_)) := hid (by have := hA0.out; rwa [hBF, hBA] at this)
  have hqBF : q < BF := by omega
  have hfBA : BF < BA := by omega
  refine wp_region_step (.rd 0 (.rd 1 (.ac 2 (.ac 3 (.rd 4 (.rd 5 (.rd 6 (.rd 7 (.rd 8 (.rd 9 (.rd 10 (.rd 11 (.rd 12 (.rd 13 (.rd 14 (.rd 15 (.rd 16 (.rd 17 (.rd 18 (.rd 19 (.rd 20 (.rd 21 (.rd 22 (.rd 23 (.rd 24 (.rd 25 (.rd 26 (.rd 27 (.rd 28 (.rd 29 (.rd 30 (.rd 31 (.rd 32 (.rd 33 (.rd 34 .done))))))))))))))))))))))))))))))))))) (by kernel_rfl) (by kernel_rfl) (fun _ _ d _ _ h => by cases d <;> exact h) (by simp only [Ord.map, nthOp, List.append]; rfl) ?_
  intro d0
  have hx1 : Ext W0 (Go.Proofs.YtoeiemeffiiidaaDoor.grow W0 d0) := Ext.grow (Ext.refl _) d0
  have hx2 := hid (hx0.out.trans hx1)
  have hF := (hx1.cells BF 0 (by omega)).trans hF0.out
  have hA := (hx1.cells BA 0 hBl).trans hA0.out
  have hBl1 := Nat.lt_of_lt_of_le hBl hx1.size
  generalize Go.Proofs.YtoeiemeffiiidaaDoor.grow W0 d0 = W at hx2 hF hA hBl1 ⊢
  clear hx0 hx1 hF0 hA0 hBl
  have hBl2 : BF < W.heap.size := by omega
  have HQ2 := hid (HQ.out.ext hx2.out)
  have hq1 := HQ2.out.1
  obtain ⟨a0, a1, a2⟩ := HQ2.out.2.1
  have hqF : ¬ q = BF := by omega
  iterate 2 (refine step_read (by rfl) (fun K hK => ?_); go_big_quiet_op; refine hK _ ?_; clear hK K)
  iterate 2 (refine step_act (by rfl) (fun K hK => ?_); go_wp2_with (first | (go_at_call 51; refine (gran_ (some ⟨W.heap.size, 0, none⟩) 2 [at_, n] _ (slAtNew W [.int .i64 at_, .int .i64 n] _) (by simp)).mono ?_; rw [HG.out]; rintro e w1 ⟨rfl, hx1⟩)); refine ⟨_, (by repeat (first | (with_reducible exact Ext.refl _) | (with_reducible refine Ext.undrew ?_) | (with_reducible refine Ext.grow ?_ _) | (with_reducible refine Ext.drew ?_) | (with_reducible refine Ext.drewN ?_ _) | (with_reducible refine Ext.alloc ?_ _) | (with_reducible assumption) | ((with_reducible refine Ext.setCell ?_ ?_ _); rotate_left; (first | exact Nat.le_refl _ | ((try dsimp only); (try simp only [World.size_alloc, grow_size, World.size_setCell]); omega))))), Ext.refl _, ?_⟩)
  have hxW := (Ext.alloc (Ext.refl W) (.cells #[.int .i64 at_, .int .i64 n] 3)).trans hx1
  have HQ3 := hid (HQ2.out.ext hxW)
  have hF3 := (hxW.cells BF 0 hBl2).trans hF
  have hA3 := (hxW.cells BA 0 hBl1).trans hA
  have hBF3 := Nat.lt_of_lt_of_le hBl2 hxW.size
  have hBA3 := Nat.lt_of_lt_of_le hBl1 hxW.size
  have hxw3 := hid (hx2.out.trans hxW)
  clear hF hA hBl1 hBl2 hx1 hxW hx2 a0 a1 a2 hq1
  have hq1 := HQ3.out.1
  obtain ⟨a0, a1, a2⟩ := HQ3.out.2.1
  apply step_quiet
  repeat (first | exact IsOrd.nil | apply IsOrd.cons)
  (repeat (go_big_quiet_step (fail)))
  refine wpQuiet_nil ?_
  go_wp2
  go_ret
  exact ⟨rfl, hxw3.out⟩
set_option maxRecDepth 100000 in
set_option maxHeartbeats 4000000 in
theorem give_n2 (q base : Nat) (fr to : Int) (v : Value) (l : List Pr) (w : World) (h : Fr w q base fr to v l) (at_ n : Int) (hg : [at_, n].all g16 = true) (k0 : n < 1) : Calls Tryd.prog 39 #[.pointer (some ⟨q, 0, none⟩), .int .i64 at_, .int .i64 n] w fun e w' => e = .returned (.bool false) ∧ Ext w w' := by
  obtain ⟨A, ca, rfl, hca, hnil⟩ := h.2.2.2.1.shape
  have HQ := hid h
  have hqw := h.1
  clear h
  have HG := hid hg
  clear hg
  go_enter Tryd.func39, Tryd.ntmps39
  go_upto_region 1 with (fail)
  refine wp_gen (fun W => Hid (Ext w W) ∧ Hid (W.cell? ⟨w.heap.size, 0, none⟩ = some (.pointer (some ⟨q, 0, none⟩))) ∧ Hid (W.cell? ⟨w.heap.size + 1, 0, none⟩ = some (.int .i64 at_)) ∧ w.heap.size + 1 < W.heap.size) ⟨hid (by repeat (first | (with_reducible exact Ext.refl _) | (with_reducible refine Ext.undrew ?_) | (with_reducible refine Ext.grow ?_ _) | (with_reducible refine Ext.drew ?_) | (with_reducible refine Ext.drewN ?_ _) | (with_reducible refine Ext.alloc ?_ _) | (with_reducible assumption) | ((with_reducible refine Ext.setCell ?_ ?_ _); rotate_left; (first | exact Nat.le_refl _ | ((try dsimp only); (try simp only [World.size_alloc, grow_size, World.size_setCell]); omega))))), hid (by simp [go_sem]), hid (by simp [go_sem]), by simp⟩ ?_
  rintro W0 ⟨hx0, hF0, hA0, hBl⟩
  obtain ⟨BF, hBF⟩ : ∃ x, w.heap.size = x := ⟨_, rfl⟩
  obtain ⟨BA, hBA⟩ : ∃ x, w.heap.size + 1 = x := ⟨_, rfl⟩
  rw [hBF] at hF0 ⊢
  rw [hBF] at hBA hBl
  rw [← hBF] at hBA
  (try rw [hBF] at hBA)
  rw [hBA] at hBl ⊢
  have hA0 : Hid (W0.cell? ⟨BA, 0, none⟩ = some (.int .i64 at_)) := hid (by have := hA0.out; rwa [hBF, hBA] at this)
  have hqBF : q < BF := by omega
  have hfBA : BF < BA := by omega
  refine wp_region_step (.rd 0 (.rd 1 (.ac 2 (.ac 3 (.rd 4 (.rd 5 (.rd 6 (.rd 7 (.rd 8 (.rd 9 (.rd 10 (.rd 11 (.rd 12 (.rd 13 (.rd 14 (.rd 15 (.rd 16 (.rd 17 (.rd 18 (.rd 19 (.rd 20 (.rd 21 (.rd 22 (.rd 23 (.rd 24 (.rd 25 (.rd 26 (.rd 27 (.rd 28 (.rd 29 (.rd 30 (.rd 31 (.rd 32 (.rd 33 (.rd 34 .done))))))))))))))))))))))))))))))))))) (by kernel_rfl) (by kernel_rfl) (fun _ _ d _ _ h => by cases d <;> exact h) (by simp only [Ord.map, nthOp, List.append]; rfl) ?_
  intro d0
  have hx1 : Ext W0 (Go.Proofs.YtoeiemeffiiidaaDoor.grow W0 d0) := Ext.grow (Ext.refl _) d0
  have hx2 := hid (hx0.out.trans hx1)
  have hF := (hx1.cells BF 0 (by omega)).trans hF0.out
  have hA := (hx1.cells BA 0 hBl).trans hA0.out
  have hBl1 := Nat.lt_of_lt_of_le hBl hx1.size
  generalize Go.Proofs.YtoeiemeffiiidaaDoor.grow W0 d0 = W at hx2 hF hA hBl1 ⊢
  clear hx0 hx1 hF0 hA0 hBl
  have hBl2 : BF < W.heap.size := by omega
  have HQ2 := hid (HQ.out.ext hx2.out)
  have hq1 := HQ2.out.1
  obtain ⟨a0, a1, a2⟩ := HQ2.out.2.1
  have hqF : ¬ q = BF := by omega
  iterate 2 (refine step_read (by rfl) (fun K hK => ?_); go_big_quiet_op; refine hK _ ?_; clear hK K)
  iterate 2 (refine step_act (by rfl) (fun K hK => ?_); go_wp2_with (first | (go_at_call 51; refine (gran_ (some ⟨W.heap.size, 0, none⟩) 2 [at_, n] _ (slAtNew W [.int .i64 at_, .int .i64 n] _) (by simp)).mono ?_; rw [HG.out]; rintro e w1 ⟨rfl, hx1⟩)); refine ⟨_, (by repeat (first | (with_reducible exact Ext.refl _) | (with_reducible refine Ext.undrew ?_) | (with_reducible refine Ext.grow ?_ _) | (with_reducible refine Ext.drew ?_) | (with_reducible refine Ext.drewN ?_ _) | (with_reducible refine Ext.alloc ?_ _) | (with_reducible assumption) | ((with_reducible refine Ext.setCell ?_ ?_ _); rotate_left; (first | exact Nat.le_refl _ | ((try dsimp only); (try simp only [World.size_alloc, grow_size, World.size_setCell]); omega))))), Ext.refl _, ?_⟩)
  have hxW := (Ext.alloc (Ext.refl W) (.cells #[.int .i64 at_, .int .i64 n] 3)).trans hx1
  have HQ3 := hid (HQ2.out.ext hxW)
  have hF3 := (hxW.cells BF 0 hBl2).trans hF
  have hA3 := (hxW.cells BA 0 hBl1).trans hA
  have hBF3 := Nat.lt_of_lt_of_le hBl2 hxW.size
  have hBA3 := Nat.lt_of_lt_of_le hBl1 hxW.size
  have hxw3 := hid (hx2.out.trans hxW)
  clear hF hA hBl1 hBl2 hx1 hxW hx2 a0 a1 a2 hq1
  have hq1 := HQ3.out.1
  obtain ⟨a0, a1, a2⟩ := HQ3.out.2.1
  apply step_quiet
  repeat (first | exact IsOrd.nil | apply IsOrd.cons)
  (repeat (go_big_quiet_step (fail)))
  refine wpQuiet_nil ?_
  go_wp2
  go_ret
  exact ⟨rfl, hxw3.out⟩
set_option maxRecDepth 100000 in
set_option maxHeartbeats 4000000 in
theorem give_n3 (q base : Nat) (fr to : Int) (v : Value) (l : List Pr) (w : World) (h : Fr w q base fr to v l) (at_ n : Int) (hg : [at_, n].all g16 = true) (h0 : 1 ≤ n) (k1 : at_ < fr) : Calls Tryd.prog 39 #[.pointer (some ⟨q, 0, none⟩), .int .i64 at_, .int .i64 n] w fun e w' => e = .returned (.bool false) ∧ Ext w w' := by
  obtain ⟨A, ca, rfl, hca, hnil⟩ := h.2.2.2.1.shape
  have HQ := hid h
  have hqw := h.1
  clear h
  have HG := hid hg
  clear hg
  go_enter Tryd.func39, Tryd.ntmps39
  go_upto_region 1 with (fail)
  refine wp_gen (fun W => Hid (Ext w W) ∧ Hid (W.cell? ⟨w.heap.size, 0, none⟩ = some (.pointer (some ⟨q, 0, none⟩))) ∧ Hid (W.cell? ⟨w.heap.size + 1, 0, none⟩ = some (.int .i64 at_)) ∧ w.heap.size + 1 < W.heap.size) ⟨hid (by repeat (first | (with_reducible exact Ext.refl _) | (with_reducible refine Ext.undrew ?_) | (with_reducible refine Ext.grow ?_ _) | (with_reducible refine Ext.drew ?_) | (with_reducible refine Ext.drewN ?_ _) | (with_reducible refine Ext.alloc ?_ _) | (with_reducible assumption) | ((with_reducible refine Ext.setCell ?_ ?_ _); rotate_left; (first | exact Nat.le_refl _ | ((try dsimp only); (try simp only [World.size_alloc, grow_size, World.size_setCell]); omega))))), hid (by simp [go_sem]), hid (by simp [go_sem]), by simp⟩ ?_
  rintro W0 ⟨hx0, hF0, hA0, hBl⟩
  obtain ⟨BF, hBF⟩ : ∃ x, w.heap.size = x := ⟨_, rfl⟩
  obtain ⟨BA, hBA⟩ : ∃ x, w.heap.size + 1 = x := ⟨_, rfl⟩
  rw [hBF] at hF0 ⊢
  rw [hBF] at hBA hBl
  rw [← hBF] at hBA
  (try rw [hBF] at hBA)
  rw [hBA] at hBl ⊢
  have hA0 : Hid (W0.cell? ⟨BA, 0, none⟩ = some (.int .i64 at_)) := hid (by have := hA0.out; rwa [hBF, hBA] at this)
  have hqBF : q < BF := by omega
  have hfBA : BF < BA := by omega
  refine wp_region_step (.rd 0 (.rd 1 (.ac 2 (.ac 3 (.rd 4 (.rd 5 (.rd 6 (.rd 7 (.rd 8 (.rd 9 (.rd 10 (.rd 11 (.rd 12 (.rd 13 (.rd 14 (.rd 15 (.rd 16 (.rd 17 (.rd 18 (.rd 19 (.rd 20 (.rd 21 (.rd 22 (.rd 23 (.rd 24 (.rd 25 (.rd 26 (.rd 27 (.rd 28 (.rd 29 (.rd 30 (.rd 31 (.rd 32 (.rd 33 (.rd 34 .done))))))))))))))))))))))))))))))))))) (by kernel_rfl) (by kernel_rfl) (fun _ _ d _ _ h => by cases d <;> exact h) (by simp only [Ord.map, nthOp, List.append]; rfl) ?_
  intro d0
  have hx1 : Ext W0 (Go.Proofs.YtoeiemeffiiidaaDoor.grow W0 d0) := Ext.grow (Ext.refl _) d0
  have hx2 := hid (hx0.out.trans hx1)
  have hF := (hx1.cells BF 0 (by omega)).trans hF0.out
  have hA := (hx1.cells BA 0 hBl).trans hA0.out
  have hBl1 := Nat.lt_of_lt_of_le hBl hx1.size
  generalize Go.Proofs.YtoeiemeffiiidaaDoor.grow W0 d0 = W at hx2 hF hA hBl1 ⊢
  clear hx0 hx1 hF0 hA0 hBl
  have hBl2 : BF < W.heap.size := by omega
  have HQ2 := hid (HQ.out.ext hx2.out)
  have hq1 := HQ2.out.1
  obtain ⟨a0, a1, a2⟩ := HQ2.out.2.1
  have hqF : ¬ q = BF := by omega
  iterate 2 (refine step_read (by rfl) (fun K hK => ?_); go_big_quiet_op; refine hK _ ?_; clear hK K)
  iterate 2 (refine step_act (by rfl) (fun K hK => ?_); go_wp2_with (first | (go_at_call 51; refine (gran_ (some ⟨W.heap.size, 0, none⟩) 2 [at_, n] _ (slAtNew W [.int .i64 at_, .int .i64 n] _) (by simp)).mono ?_; rw [HG.out]; rintro e w1 ⟨rfl, hx1⟩)); refine ⟨_, (by repeat (first | (with_reducible exact Ext.refl _) | (with_reducible refine Ext.undrew ?_) | (with_reducible refine Ext.grow ?_ _) | (with_reducible refine Ext.drew ?_) | (with_reducible refine Ext.drewN ?_ _) | (with_reducible refine Ext.alloc ?_ _) | (with_reducible assumption) | ((with_reducible refine Ext.setCell ?_ ?_ _); rotate_left; (first | exact Nat.le_refl _ | ((try dsimp only); (try simp only [World.size_alloc, grow_size, World.size_setCell]); omega))))), Ext.refl _, ?_⟩)
  have hxW := (Ext.alloc (Ext.refl W) (.cells #[.int .i64 at_, .int .i64 n] 3)).trans hx1
  have HQ3 := hid (HQ2.out.ext hxW)
  have hF3 := (hxW.cells BF 0 hBl2).trans hF
  have hA3 := (hxW.cells BA 0 hBl1).trans hA
  have hBF3 := Nat.lt_of_lt_of_le hBl2 hxW.size
  have hBA3 := Nat.lt_of_lt_of_le hBl1 hxW.size
  have hxw3 := hid (hx2.out.trans hxW)
  clear hF hA hBl1 hBl2 hx1 hxW hx2 a0 a1 a2 hq1
  have hq1 := HQ3.out.1
  obtain ⟨a0, a1, a2⟩ := HQ3.out.2.1
  have k0 : ¬ n < 1 := by omega
  apply step_quiet
  repeat (first | exact IsOrd.nil | apply IsOrd.cons)
  (repeat (go_big_quiet_step (fail)))
  refine wpQuiet_nil ?_
  go_wp2
  go_ret
  exact ⟨rfl, hxw3.out⟩
set_option maxRecDepth 100000 in
set_option maxHeartbeats 4000000 in
theorem give_n4 (q base : Nat) (fr to : Int) (v : Value) (l : List Pr) (w : World) (h : Fr w q base fr to v l) (at_ n : Int) (hg : [at_, n].all g16 = true) (h0 : 1 ≤ n) (h1 : fr ≤ at_) (k2 : to < at_) : Calls Tryd.prog 39 #[.pointer (some ⟨q, 0, none⟩), .int .i64 at_, .int .i64 n] w fun e w' => e = .returned (.bool false) ∧ Ext w w' := by
  obtain ⟨A, ca, rfl, hca, hnil⟩ := h.2.2.2.1.shape
  have HQ := hid h
  have hqw := h.1
  clear h
  have HG := hid hg
  clear hg
  go_enter Tryd.func39, Tryd.ntmps39
  go_upto_region 1 with (fail)
  refine wp_gen (fun W => Hid (Ext w W) ∧ Hid (W.cell? ⟨w.heap.size, 0, none⟩ = some (.pointer (some ⟨q, 0, none⟩))) ∧ Hid (W.cell? ⟨w.heap.size + 1, 0, none⟩ = some (.int .i64 at_)) ∧ w.heap.size + 1 < W.heap.size) ⟨hid (by repeat (first | (with_reducible exact Ext.refl _) | (with_reducible refine Ext.undrew ?_) | (with_reducible refine Ext.grow ?_ _) | (with_reducible refine Ext.drew ?_) | (with_reducible refine Ext.drewN ?_ _) | (with_reducible refine Ext.alloc ?_ _) | (with_reducible assumption) | ((with_reducible refine Ext.setCell ?_ ?_ _); rotate_left; (first | exact Nat.le_refl _ | ((try dsimp only); (try simp only [World.size_alloc, grow_size, World.size_setCell]); omega))))), hid (by simp [go_sem]), hid (by simp [go_sem]), by simp⟩ ?_
  rintro W0 ⟨hx0, hF0, hA0, hBl⟩
  obtain ⟨BF, hBF⟩ : ∃ x, w.heap.size = x := ⟨_, rfl⟩
  obtain ⟨BA, hBA⟩ : ∃ x, w.heap.size + 1 = x := ⟨_, rfl⟩
  rw [hBF] at hF0 ⊢
  rw [hBF] at hBA hBl
  rw [← hBF] at hBA
  (try rw [hBF] at hBA)
  rw [hBA] at hBl ⊢
  have hA0 : Hid (W0.cell? ⟨BA, 0, none⟩ = some (.int .i64 at_)) := hid (by have := hA0.out; rwa [hBF, hBA] at this)
  have hqBF : q < BF := by omega
  have hfBA : BF < BA := by omega
  refine wp_region_step (.rd 0 (.rd 1 (.ac 2 (.ac 3 (.rd 4 (.rd 5 (.rd 6 (.rd 7 (.rd 8 (.rd 9 (.rd 10 (.rd 11 (.rd 12 (.rd 13 (.rd 14 (.rd 15 (.rd 16 (.rd 17 (.rd 18 (.rd 19 (.rd 20 (.rd 21 (.rd 22 (.rd 23 (.rd 24 (.rd 25 (.rd 26 (.rd 27 (.rd 28 (.rd 29 (.rd 30 (.rd 31 (.rd 32 (.rd 33 (.rd 34 .done))))))))))))))))))))))))))))))))))) (by kernel_rfl) (by kernel_rfl) (fun _ _ d _ _ h => by cases d <;> exact h) (by simp only [Ord.map, nthOp, List.append]; rfl) ?_
  intro d0
  have hx1 : Ext W0 (Go.Proofs.YtoeiemeffiiidaaDoor.grow W0 d0) := Ext.grow (Ext.refl _) d0
  have hx2 := hid (hx0.out.trans hx1)
  have hF := (hx1.cells BF 0 (by omega)).trans hF0.out
  have hA := (hx1.cells BA 0 hBl).trans hA0.out
  have hBl1 := Nat.lt_of_lt_of_le hBl hx1.size
  generalize Go.Proofs.YtoeiemeffiiidaaDoor.grow W0 d0 = W at hx2 hF hA hBl1 ⊢
  clear hx0 hx1 hF0 hA0 hBl
  have hBl2 : BF < W.heap.size := by omega
  have HQ2 := hid (HQ.out.ext hx2.out)
  have hq1 := HQ2.out.1
  obtain ⟨a0, a1, a2⟩ := HQ2.out.2.1
  have hqF : ¬ q = BF := by omega
  iterate 2 (refine step_read (by rfl) (fun K hK => ?_); go_big_quiet_op; refine hK _ ?_; clear hK K)
  iterate 2 (refine step_act (by rfl) (fun K hK => ?_); go_wp2_with (first | (go_at_call 51; refine (gran_ (some ⟨W.heap.size, 0, none⟩) 2 [at_, n] _ (slAtNew W [.int .i64 at_, .int .i64 n] _) (by simp)).mono ?_; rw [HG.out]; rintro e w1 ⟨rfl, hx1⟩)); refine ⟨_, (by repeat (first | (with_reducible exact Ext.refl _) | (with_reducible refine Ext.undrew ?_) | (with_reducible refine Ext.grow ?_ _) | (with_reducible refine Ext.drew ?_) | (with_reducible refine Ext.drewN ?_ _) | (with_reducible refine Ext.alloc ?_ _) | (with_reducible assumption) | ((with_reducible refine Ext.setCell ?_ ?_ _); rotate_left; (first | exact Nat.le_refl _ | ((try dsimp only); (try simp only [World.size_alloc, grow_size, World.size_setCell]); omega))))), Ext.refl _, ?_⟩)
  have hxW := (Ext.alloc (Ext.refl W) (.cells #[.int .i64 at_, .int .i64 n] 3)).trans hx1
  have HQ3 := hid (HQ2.out.ext hxW)
  have hF3 := (hxW.cells BF 0 hBl2).trans hF
  have hA3 := (hxW.cells BA 0 hBl1).trans hA
  have hBF3 := Nat.lt_of_lt_of_le hBl2 hxW.size
  have hBA3 := Nat.lt_of_lt_of_le hBl1 hxW.size
  have hxw3 := hid (hx2.out.trans hxW)
  clear hF hA hBl1 hBl2 hx1 hxW hx2 a0 a1 a2 hq1
  have hq1 := HQ3.out.1
  obtain ⟨a0, a1, a2⟩ := HQ3.out.2.1
  have k0 : ¬ n < 1 := by omega
  have k1 : ¬ at_ < fr := by omega
  apply step_quiet
  repeat (first | exact IsOrd.nil | apply IsOrd.cons)
  (repeat (go_big_quiet_step (fail)))
  refine wpQuiet_nil ?_
  go_wp2
  go_ret
  exact ⟨rfl, hxw3.out⟩
set_option maxRecDepth 100000 in
set_option maxHeartbeats 4000000 in
theorem give_n5 (q base : Nat) (fr to : Int) (v : Value) (l : List Pr) (w : World) (h : Fr w q base fr to v l) (at_ n : Int) (hg : [at_, n].all g16 = true) (hb0 : 0 ≤ fr) (hb1 : to ≤ 16777216) (h0 : 1 ≤ n) (h1 : fr ≤ at_) (h2 : at_ ≤ to) (k3 : to - at_ < n) : Calls Tryd.prog 39 #[.pointer (some ⟨q, 0, none⟩), .int .i64 at_, .int .i64 n] w fun e w' => e = .returned (.bool false) ∧ Ext w w' := by
  obtain ⟨A, ca, rfl, hca, hnil⟩ := h.2.2.2.1.shape
  have HQ := hid h
  have hqw := h.1
  clear h
  have HG := hid hg
  clear hg
  go_enter Tryd.func39, Tryd.ntmps39
  go_upto_region 1 with (fail)
  refine wp_gen (fun W => Hid (Ext w W) ∧ Hid (W.cell? ⟨w.heap.size, 0, none⟩ = some (.pointer (some ⟨q, 0, none⟩))) ∧ Hid (W.cell? ⟨w.heap.size + 1, 0, none⟩ = some (.int .i64 at_)) ∧ w.heap.size + 1 < W.heap.size) ⟨hid (by repeat (first | (with_reducible exact Ext.refl _) | (with_reducible refine Ext.undrew ?_) | (with_reducible refine Ext.grow ?_ _) | (with_reducible refine Ext.drew ?_) | (with_reducible refine Ext.drewN ?_ _) | (with_reducible refine Ext.alloc ?_ _) | (with_reducible assumption) | ((with_reducible refine Ext.setCell ?_ ?_ _); rotate_left; (first | exact Nat.le_refl _ | ((try dsimp only); (try simp only [World.size_alloc, grow_size, World.size_setCell]); omega))))), hid (by simp [go_sem]), hid (by simp [go_sem]), by simp⟩ ?_
  rintro W0 ⟨hx0, hF0, hA0, hBl⟩
  obtain ⟨BF, hBF⟩ : ∃ x, w.heap.size = x := ⟨_, rfl⟩
  obtain ⟨BA, hBA⟩ : ∃ x, w.heap.size + 1 = x := ⟨_, rfl⟩
  rw [hBF] at hF0 ⊢
  rw [hBF] at hBA hBl
  rw [← hBF] at hBA
  (try rw [hBF] at hBA)
  rw [hBA] at hBl ⊢
  have hA0 : Hid (W0.cell? ⟨BA, 0, none⟩ = some (.int .i64 at_)) := hid (by have := hA0.out; rwa [hBF, hBA] at this)
  have hqBF : q < BF := by omega
  have hfBA : BF < BA := by omega
  refine wp_region_step (.rd 0 (.rd 1 (.ac 2 (.ac 3 (.rd 4 (.rd 5 (.rd 6 (.rd 7 (.rd 8 (.rd 9 (.rd 10 (.rd 11 (.rd 12 (.rd 13 (.rd 14 (.rd 15 (.rd 16 (.rd 17 (.rd 18 (.rd 19 (.rd 20 (.rd 21 (.rd 22 (.rd 23 (.rd 24 (.rd 25 (.rd 26 (.rd 27 (.rd 28 (.rd 29 (.rd 30 (.rd 31 (.rd 32 (.rd 33 (.rd 34 .done))))))))))))))))))))))))))))))))))) (by kernel_rfl) (by kernel_rfl) (fun _ _ d _ _ h => by cases d <;> exact h) (by simp only [Ord.map, nthOp, List.append]; rfl) ?_
  intro d0
  have hx1 : Ext W0 (Go.Proofs.YtoeiemeffiiidaaDoor.grow W0 d0) := Ext.grow (Ext.refl _) d0
  have hx2 := hid (hx0.out.trans hx1)
  have hF := (hx1.cells BF 0 (by omega)).trans hF0.out
  have hA := (hx1.cells BA 0 hBl).trans hA0.out
  have hBl1 := Nat.lt_of_lt_of_le hBl hx1.size
  generalize Go.Proofs.YtoeiemeffiiidaaDoor.grow W0 d0 = W at hx2 hF hA hBl1 ⊢
  clear hx0 hx1 hF0 hA0 hBl
  have hBl2 : BF < W.heap.size := by omega
  have HQ2 := hid (HQ.out.ext hx2.out)
  have hq1 := HQ2.out.1
  obtain ⟨a0, a1, a2⟩ := HQ2.out.2.1
  have hqF : ¬ q = BF := by omega
  iterate 2 (refine step_read (by rfl) (fun K hK => ?_); go_big_quiet_op; refine hK _ ?_; clear hK K)
  iterate 2 (refine step_act (by rfl) (fun K hK => ?_); go_wp2_with (first | (go_at_call 51; refine (gran_ (some ⟨W.heap.size, 0, none⟩) 2 [at_, n] _ (slAtNew W [.int .i64 at_, .int .i64 n] _) (by simp)).mono ?_; rw [HG.out]; rintro e w1 ⟨rfl, hx1⟩)); refine ⟨_, (by repeat (first | (with_reducible exact Ext.refl _) | (with_reducible refine Ext.undrew ?_) | (with_reducible refine Ext.grow ?_ _) | (with_reducible refine Ext.drew ?_) | (with_reducible refine Ext.drewN ?_ _) | (with_reducible refine Ext.alloc ?_ _) | (with_reducible assumption) | ((with_reducible refine Ext.setCell ?_ ?_ _); rotate_left; (first | exact Nat.le_refl _ | ((try dsimp only); (try simp only [World.size_alloc, grow_size, World.size_setCell]); omega))))), Ext.refl _, ?_⟩)
  have hxW := (Ext.alloc (Ext.refl W) (.cells #[.int .i64 at_, .int .i64 n] 3)).trans hx1
  have HQ3 := hid (HQ2.out.ext hxW)
  have hF3 := (hxW.cells BF 0 hBl2).trans hF
  have hA3 := (hxW.cells BA 0 hBl1).trans hA
  have hBF3 := Nat.lt_of_lt_of_le hBl2 hxW.size
  have hBA3 := Nat.lt_of_lt_of_le hBl1 hxW.size
  have hxw3 := hid (hx2.out.trans hxW)
  clear hF hA hBl1 hBl2 hx1 hxW hx2 a0 a1 a2 hq1
  have hq1 := HQ3.out.1
  obtain ⟨a0, a1, a2⟩ := HQ3.out.2.1
  have k0 : ¬ n < 1 := by omega
  have k1 : ¬ at_ < fr := by omega
  have k2 : ¬ to < at_ := by omega
  have hw : wrap64 (to - at_) = to - at_ := wrapP (by omega) (by omega)
  apply step_quiet
  repeat (first | exact IsOrd.nil | apply IsOrd.cons)
  (repeat (go_big_quiet_step (fail)))
  refine wpQuiet_nil ?_
  go_wp2
  go_ret
  exact ⟨rfl, hxw3.out⟩
end Go.Proofs.YtoeiemeffiiidaaDoor

namespace Go.Proofs.YtoeiemeffiiidaaDoor
set_option maxRecDepth 100000
set_option linter.unusedSimpArgs false
set_option linter.unusedVariables false
open Go.RowKit

theorem srch_uniq {l : List Pr} {x : Int} {k k' : Nat} (h1 : ∀ (j : Nat) (hj : j < l.length), j < k → (l[j]).hi ≤ x) (h2 : ∀ hk : k < l.length, x < (l[k]).hi) (h3 : k ≤ l.length)
    (h1' : ∀ (j : Nat) (hj : j < l.length), j < k' → (l[j]).hi ≤ x) (h2' : ∀ hk : k' < l.length, x < (l[k']).hi) (h3' : k' ≤ l.length) : k = k' := by
  rcases Nat.lt_trichotomy k k' with h | h | h
  · have a := h1' k (by omega) h
    have b := h2 (by omega)
    omega
  · exact h
  · have a := h1 k' (by omega) h
    have b := h2' (by omega)
    omega
set_option maxRecDepth 100000 in
set_option maxHeartbeats 4000000 in
theorem give_n6 (q base : Nat) (fr to : Int) (v : Value) (l : List Pr) (w : World) (h : Fr w q base fr to v l) (at_ n : Int) (hg : [at_, n].all g16 = true) (hb0 : 0 ≤ fr) (hb1 : to ≤ 16777216) (h0 : 1 ≤ n) (h1 : fr ≤ at_) (h2 : at_ ≤ to) (h3 : n ≤ to - at_) (hl9 : l.length ≤ 10000000)
    (hmono : ∀ (a b : Nat) (hb : b < l.length) (hab : a ≤ b), at_ < (l[a]'(by omega)).hi → at_ < (l[b]).hi) (k : Nat) (hkl : k ≤ l.length) (hlow : ∀ (j : Nat) (hj : j < l.length), j < k → (l[j]).hi ≤ at_) (hhigh : ∀ hk : k < l.length, at_ < (l[k]).hi) (hk : k < l.length) (hov : (l[k]).lo < at_ + n) : Calls Tryd.prog 39 #[.pointer (some ⟨q, 0, none⟩), .int .i64 at_, .int .i64 n] w fun e w' => e = .returned (.bool false) ∧ Ext w w' := by
  have HMO := hid hmono
  have HLO := hid hlow
  have HHI := hid hhigh
  clear hmono hlow hhigh
  obtain ⟨A, ca, rfl, hca, hnil⟩ := h.2.2.2.1.shape
  have HQ := hid h
  have hqw := h.1
  clear h
  have HG := hid hg
  clear hg
  go_enter Tryd.func39, Tryd.ntmps39
  go_upto_region 1 with (fail)
  refine wp_gen (fun W => Hid (Ext w W) ∧ Hid (W.cell? ⟨w.heap.size, 0, none⟩ = some (.pointer (some ⟨q, 0, none⟩))) ∧ Hid (W.cell? ⟨w.heap.size + 1, 0, none⟩ = some (.int .i64 at_)) ∧ w.heap.size + 1 < W.heap.size) ⟨hid (by repeat (first | (with_reducible exact Ext.refl _) | (with_reducible refine Ext.undrew ?_) | (with_reducible refine Ext.grow ?_ _) | (with_reducible refine Ext.drew ?_) | (with_reducible refine Ext.drewN ?_ _) | (with_reducible refine Ext.alloc ?_ _) | (with_reducible assumption) | ((with_reducible refine Ext.setCell ?_ ?_ _); rotate_left; (first | exact Nat.le_refl _ | ((try dsimp only); (try simp only [World.size_alloc, grow_size, World.size_setCell]); omega))))), hid (by simp [go_sem]), hid (by simp [go_sem]), by simp⟩ ?_
  rintro W0 ⟨hx0, hF0, hA0, hBl⟩
  obtain ⟨BF, hBF⟩ : ∃ x, w.heap.size = x := ⟨_, rfl⟩
  obtain ⟨BA, hBA⟩ : ∃ x, w.heap.size + 1 = x := ⟨_, rfl⟩
  rw [hBF] at hF0 ⊢
  rw [hBF] at hBA hBl
  rw [← hBF] at hBA
  (try rw [hBF] at hBA)
  rw [hBA] at hBl ⊢
  have hA0 : Hid (W0.cell? ⟨BA, 0, none⟩ = some (.int .i64 at_)) := hid (by have := hA0.out; rwa [hBF, hBA] at this)
  have hqBF : q < BF := by omega
  have hfBA : BF < BA := by omega
  refine wp_region_step (.rd 0 (.rd 1 (.ac 2 (.ac 3 (.rd 4 (.rd 5 (.rd 6 (.rd 7 (.rd 8 (.rd 9 (.rd 10 (.rd 11 (.rd 12 (.rd 13 (.rd 14 (.rd 15 (.rd 16 (.rd 17 (.rd 18 (.rd 19 (.rd 20 (.rd 21 (.rd 22 (.rd 23 (.rd 24 (.rd 25 (.rd 26 (.rd 27 (.rd 28 (.rd 29 (.rd 30 (.rd 31 (.rd 32 (.rd 33 (.rd 34 .done))))))))))))))))))))))))))))))))))) (by kernel_rfl) (by kernel_rfl) (fun _ _ d _ _ h => by cases d <;> exact h) (by simp only [Ord.map, nthOp, List.append]; rfl) ?_
  intro d0
  have hx1 : Ext W0 (Go.Proofs.YtoeiemeffiiidaaDoor.grow W0 d0) := Ext.grow (Ext.refl _) d0
  have hx2 := hid (hx0.out.trans hx1)
  have hF := (hx1.cells BF 0 (by omega)).trans hF0.out
  have hA := (hx1.cells BA 0 hBl).trans hA0.out
  have hBl1 := Nat.lt_of_lt_of_le hBl hx1.size
  generalize Go.Proofs.YtoeiemeffiiidaaDoor.grow W0 d0 = W at hx2 hF hA hBl1 ⊢
  clear hx0 hx1 hF0 hA0 hBl
  have hBl2 : BF < W.heap.size := by omega
  have HQ2 := hid (HQ.out.ext hx2.out)
  have hq1 := HQ2.out.1
  obtain ⟨a0, a1, a2⟩ := HQ2.out.2.1
  have hqF : ¬ q = BF := by omega
  iterate 2 (refine step_read (by rfl) (fun K hK => ?_); go_big_quiet_op; refine hK _ ?_; clear hK K)
  iterate 2 (refine step_act (by rfl) (fun K hK => ?_); go_wp2_with (first | (go_at_call 51; refine (gran_ (some ⟨W.heap.size, 0, none⟩) 2 [at_, n] _ (slAtNew W [.int .i64 at_, .int .i64 n] _) (by simp)).mono ?_; rw [HG.out]; rintro e w1 ⟨rfl, hx1⟩)); refine ⟨_, (by repeat (first | (with_reducible exact Ext.refl _) | (with_reducible refine Ext.undrew ?_) | (with_reducible refine Ext.grow ?_ _) | (with_reducible refine Ext.drew ?_) | (with_reducible refine Ext.drewN ?_ _) | (with_reducible refine Ext.alloc ?_ _) | (with_reducible assumption) | ((with_reducible refine Ext.setCell ?_ ?_ _); rotate_left; (first | exact Nat.le_refl _ | ((try dsimp only); (try simp only [World.size_alloc, grow_size, World.size_setCell]); omega))))), Ext.refl _, ?_⟩)
  have hxW := (Ext.alloc (Ext.refl W) (.cells #[.int .i64 at_, .int .i64 n] 3)).trans hx1
  have HQ3 := hid (HQ2.out.ext hxW)
  have hF3 := (hxW.cells BF 0 hBl2).trans hF
  have hA3 := (hxW.cells BA 0 hBl1).trans hA
  have hBF3 := Nat.lt_of_lt_of_le hBl2 hxW.size
  have hBA3 := Nat.lt_of_lt_of_le hBl1 hxW.size
  have hxw3 := hid (hx2.out.trans hxW)
  clear hF hA hBl1 hBl2 hx1 hxW hx2 a0 a1 a2 hq1
  have hq1 := HQ3.out.1
  obtain ⟨a0, a1, a2⟩ := HQ3.out.2.1
  have k0 : ¬ n < 1 := by omega
  have k1 : ¬ at_ < fr := by omega
  have k2 : ¬ to < at_ := by omega
  have hw : wrap64 (to - at_) = to - at_ := wrapP (by omega) (by omega)
  have k3 : ¬ to - at_ < n := by omega
  apply step_quiet
  repeat (first | exact IsOrd.nil | apply IsOrd.cons)
  (repeat (go_big_quiet_step (fail)))
  refine wpQuiet_nil ?_
  clear k0 k1 k2 hw k3 a0 a1 a2 hq1
  have hwe : wrap64 (at_ + n) = at_ + n := wrapP (by omega) (by omega)
  have HF3 := hid hF3
  have HA3 := hid hA3
  have hF3' := hF3
  have hq1 := HQ3.out.1
  have hq2 := HQ3.out.2.1.2.2
  go_upto_region 5 with (go_at_call 59; refine (search_ q base fr to _ l _ HQ3.out BF BA at_ HF3.out HA3.out hBF3 hBA3 (by omega) HMO.out).mono ?_; rintro e w2 ⟨k', rfl, hkl', hlow', hhigh', hx2⟩; obtain rfl : k = k' := srch_uniq HLO.out HHI.out hkl hlow' hhigh' hkl')
  have HQ4 := hid (HQ3.out.ext hx2)
  have hxw4 := hid (hxw3.out.trans hx2)
  have hF4 := (hx2.cells BF 0 hBF3).trans hF3
  have hA4 := (hx2.cells BA 0 hBA3).trans hA3
  have hBF4 := Nat.lt_of_lt_of_le hBF3 hx2.size
  have hBA4 := Nat.lt_of_lt_of_le hBA3 hx2.size
  clear HQ3 hxw3 hF3 hA3 hF3' HF3 HA3 hBF3 hBA3 hx2 hq1 hq2 hlow' hhigh' hkl' HMO
  have hq1 := HQ4.out.1
  have hq2 := HQ4.out.2.1.2.2
  obtain ⟨b, o, rfl, hb, c0, _⟩ := (HQ4.out.2.2.2.1.rdP rfl).two hk
  have hlo := hov
  clear hov
  generalize (l[k]).lo = xl at c0 hlo
  have k5 : (k : Int) < (l.length : Int) := by omega
  have k6 : (0 : Int) ≤ (k : Int) := by omega
  go_wp2
  go_ret
  exact ⟨rfl, hxw4.out⟩
/-- What is free when a run was given back, that stands at k. -/
def giveL (l : List Pr) (k : Nat) (p : Pr) : List Pr := joinL (joinL (l.take k ++ p :: l.drop k) (k + 1)) k
theorem joinL_len (l : List Pr) (i : Nat) : (joinL l i).length ≤ l.length := by
  unfold joinL
  split
  · split
    · exact (by rw [List.length_eraseIdx, List.length_set]; split <;> omega)
    · exact Nat.le_refl _
  · exact Nat.le_refl _
theorem only_gen {S : Nat → Prop} {P : Program} {ops : Array Oper} {Q : Exit → Act → World → Prop} {r : Ord Oper} {W : World} {a : Act} {w : World} (I : World → Prop) (hI : I w) (h : ∀ w', I w' → wpOnly S P ops Q r W a w') : wpOnly S P ops Q r W a w := h w hI
theorem quiet_runD {P : Program} {o : Oper} {a : Act} {C : World → Prop} {K : Act → Prop} (d : Nat) (_ : o.dst = some d) (v : Value) (h : ∀ w, (execOp a.eval o).run P w = .ok (.value v) w) (k : K (a.put o.dst v)) : o.quiet P a C K := quiet_run v h k
set_option maxRecDepth 100000 in
set_option maxHeartbeats 4000000 in
theorem give_yes0 (q base : Nat) (fr to : Int) (v : Value) (l : List Pr) (w : World) (h : Fr w q base fr to v l) (at_ n : Int) (hg : [at_, n].all g16 = true) (hb0 : 0 ≤ fr) (hb1 : to ≤ 16777216) (h0 : 1 ≤ n) (h1 : fr ≤ at_) (h2 : at_ ≤ to) (h3 : n ≤ to - at_) (hl9 : l.length ≤ 10000000)
    (hmono : ∀ (a b : Nat) (hb : b < l.length) (hab : a ≤ b), at_ < (l[a]'(by omega)).hi → at_ < (l[b]).hi) (k : Nat) (hkl : k ≤ l.length) (hlow : ∀ (j : Nat) (hj : j < l.length), j < k → (l[j]).hi ≤ at_) (hhigh : ∀ hk : k < l.length, at_ < (l[k]).hi) (hk : Hid (k = l.length)) : Calls Tryd.prog 39 #[.pointer (some ⟨q, 0, none⟩), .int .i64 at_, .int .i64 n] w fun e w' => ∃ v', e = .returned (.bool true) ∧ Hid (Fr w' q base fr to v' (giveL l k ⟨at_, at_ + n⟩)) ∧ Hid (Only (tch q v) w w') ∧ (∀ g, v'.ownBlock = some g → v.ownBlock = some g ∨ w.heap.size ≤ g) := by
  have HMO := hid hmono
  have HLO := hid hlow
  have HHI := hid hhigh
  clear hmono hlow hhigh
  obtain ⟨A, ca, rfl, hca, hnil⟩ := h.2.2.2.1.shape
  have HQ := hid h
  have hqw := h.1
  have HB : Hid (∀ g, (Value.slice A l.length ca).ownBlock = some g → g < w.heap.size) := hid (fun g e => (h.2.2.2.1.lt g e).2)
  clear h
  have HG := hid hg
  clear hg
  go_enter Tryd.func39, Tryd.ntmps39
  go_upto_region 1 with (fail)
  refine wp_gen (fun W => Hid (Ext w W) ∧ Hid (W.cell? ⟨w.heap.size, 0, none⟩ = some (.pointer (some ⟨q, 0, none⟩))) ∧ Hid (W.cell? ⟨w.heap.size + 1, 0, none⟩ = some (.int .i64 at_)) ∧ w.heap.size + 1 < W.heap.size) ⟨hid (by repeat (first | (with_reducible exact Ext.refl _) | (with_reducible refine Ext.undrew ?_) | (with_reducible refine Ext.grow ?_ _) | (with_reducible refine Ext.drew ?_) | (with_reducible refine Ext.drewN ?_ _) | (with_reducible refine Ext.alloc ?_ _) | (with_reducible assumption) | ((with_reducible refine Ext.setCell ?_ ?_ _); rotate_left; (first | exact Nat.le_refl _ | ((try dsimp only); (try simp only [World.size_alloc, grow_size, World.size_setCell]); omega))))), hid (by simp [go_sem]), hid (by simp [go_sem]), by simp⟩ ?_
  rintro W0 ⟨hx0, hF0, hA0, hBl⟩
  obtain ⟨BF, hBF⟩ : ∃ x, w.heap.size = x := ⟨_, rfl⟩
  obtain ⟨BA, hBA⟩ : ∃ x, w.heap.size + 1 = x := ⟨_, rfl⟩
  rw [hBF] at hF0 HB ⊢
  rw [hBF] at hBA hBl
  rw [← hBF] at hBA
  (try rw [hBF] at hBA)
  rw [hBA] at hBl ⊢
  have hA0 : Hid (W0.cell? ⟨BA, 0, none⟩ = some (.int .i64 at_)) := hid (by have := hA0.out; rwa [hBF, hBA] at this)
  have hqBF : q < BF := by omega
  have hfBA : BF < BA := by omega
  refine wp_region_step (.rd 0 (.rd 1 (.ac 2 (.ac 3 (.rd 4 (.rd 5 (.rd 6 (.rd 7 (.rd 8 (.rd 9 (.rd 10 (.rd 11 (.rd 12 (.rd 13 (.rd 14 (.rd 15 (.rd 16 (.rd 17 (.rd 18 (.rd 19 (.rd 20 (.rd 21 (.rd 22 (.rd 23 (.rd 24 (.rd 25 (.rd 26 (.rd 27 (.rd 28 (.rd 29 (.rd 30 (.rd 31 (.rd 32 (.rd 33 (.rd 34 .done))))))))))))))))))))))))))))))))))) (by kernel_rfl) (by kernel_rfl) (fun _ _ d _ _ h => by cases d <;> exact h) (by simp only [Ord.map, nthOp, List.append]; rfl) ?_
  intro d0
  have hx1 : Ext W0 (Go.Proofs.YtoeiemeffiiidaaDoor.grow W0 d0) := Ext.grow (Ext.refl _) d0
  have hx2 := hid (hx0.out.trans hx1)
  have hF := (hx1.cells BF 0 (by omega)).trans hF0.out
  have hA := (hx1.cells BA 0 hBl).trans hA0.out
  have hBl1 := Nat.lt_of_lt_of_le hBl hx1.size
  generalize Go.Proofs.YtoeiemeffiiidaaDoor.grow W0 d0 = W at hx2 hF hA hBl1 ⊢
  clear hx0 hx1 hF0 hA0 hBl
  have hBl2 : BF < W.heap.size := by omega
  have HQ2 := hid (HQ.out.ext hx2.out)
  have hq1 := HQ2.out.1
  obtain ⟨a0, a1, a2⟩ := HQ2.out.2.1
  have hqF : ¬ q = BF := by omega
  iterate 2 (refine step_read (by rfl) (fun K hK => ?_); go_big_quiet_op; refine hK _ ?_; clear hK K)
  iterate 2 (refine step_act (by rfl) (fun K hK => ?_); go_wp2_with (first | (go_at_call 51; refine (gran_ (some ⟨W.heap.size, 0, none⟩) 2 [at_, n] _ (slAtNew W [.int .i64 at_, .int .i64 n] _) (by simp)).mono ?_; rw [HG.out]; rintro e w1 ⟨rfl, hx1⟩)); refine ⟨_, (by repeat (first | (with_reducible exact Ext.refl _) | (with_reducible refine Ext.undrew ?_) | (with_reducible refine Ext.grow ?_ _) | (with_reducible refine Ext.drew ?_) | (with_reducible refine Ext.drewN ?_ _) | (with_reducible refine Ext.alloc ?_ _) | (with_reducible assumption) | ((with_reducible refine Ext.setCell ?_ ?_ _); rotate_left; (first | exact Nat.le_refl _ | ((try dsimp only); (try simp only [World.size_alloc, grow_size, World.size_setCell]); omega))))), Ext.refl _, ?_⟩)
  have hxW := (Ext.alloc (Ext.refl W) (.cells #[.int .i64 at_, .int .i64 n] 3)).trans hx1
  have HQ3 := hid (HQ2.out.ext hxW)
  have hF3 := (hxW.cells BF 0 hBl2).trans hF
  have hA3 := (hxW.cells BA 0 hBl1).trans hA
  have hBF3 := Nat.lt_of_lt_of_le hBl2 hxW.size
  have hBA3 := Nat.lt_of_lt_of_le hBl1 hxW.size
  have hxw3 := hid (hx2.out.trans hxW)
  clear hF hA hBl1 hBl2 hx1 hxW hx2 a0 a1 a2 hq1
  have hq1 := HQ3.out.1
  obtain ⟨a0, a1, a2⟩ := HQ3.out.2.1
  have k0 : ¬ n < 1 := by omega
  have k1 : ¬ at_ < fr := by omega
  have k2 : ¬ to < at_ := by omega
  have hw : wrap64 (to - at_) = to - at_ := wrapP (by omega) (by omega)
  have k3 : ¬ to - at_ < n := by omega
  apply step_quiet
  repeat (first | exact IsOrd.nil | apply IsOrd.cons)
  (repeat (go_big_quiet_step (fail)))
  refine wpQuiet_nil ?_
  clear k0 k1 k2 hw k3 a0 a1 a2 hq1
  have hwe : wrap64 (at_ + n) = at_ + n := wrapP (by omega) (by omega)
  have HF3 := hid hF3
  have HA3 := hid hA3
  have hF3' := hF3
  have hq1 := HQ3.out.1
  have hq2 := HQ3.out.2.1.2.2
  go_upto_region 5 with (go_at_call 59; refine (search_ q base fr to _ l _ HQ3.out BF BA at_ HF3.out HA3.out hBF3 hBA3 (by omega) HMO.out).mono ?_; rintro e w2 ⟨k', rfl, hkl', hlow', hhigh', hx2⟩; obtain rfl : k = k' := srch_uniq HLO.out HHI.out hkl hlow' hhigh' hkl')
  have HQ4 := hid (HQ3.out.ext hx2)
  have hxw4 := hid (hxw3.out.trans hx2)
  have hF4 := (hx2.cells BF 0 hBF3).trans hF3
  have hA4 := (hx2.cells BA 0 hBA3).trans hA3
  have hBF4 := Nat.lt_of_lt_of_le hBF3 hx2.size
  have hBA4 := Nat.lt_of_lt_of_le hBA3 hx2.size
  clear HQ3 hxw3 hF3 hA3 hF3' HF3 HA3 hBF3 hBA3 hx2 hq1 hq2 hlow' hhigh' hkl' HMO
  have hq1 := HQ4.out.1
  have hq2 := HQ4.out.2.1.2.2
  have k5 : ¬ (k : Int) < (l.length : Int) := by have := hk.out; omega
  go_upto_region 7 with (fail)
  obtain ⟨v, hv⟩ : ∃ v, Value.slice A l.length ca = v := ⟨_, rfl⟩
  refine wp_region_only (S := tch q (Value.slice A l.length ca)) (.rd 0 (.rd 1 (.rd 2 (.rd 3 (.rd 5 (.rd 6 (.rd 7 (.rd 8 (.br 4 (.ac 9 (.ac 10 (.rd 11 (.rd 12 (.ac 13 .done))))) 9 (.ac 4 (.ac 10 (.rd 11 (.rd 12 (.ac 13 .done)))))))))))))) (by kernel_rfl) (by kernel_rfl) (fun _ _ d _ _ h => by cases d <;> exact h) (by simp only [Ord.map, nthOp, List.append]; rfl) ?_
  intro d1
  have hx5 : Ext w2 (Go.Proofs.YtoeiemeffiiidaaDoor.grow w2 d1) := Ext.grow (Ext.refl _) d1
  have HQ5 := hid (HQ4.out.ext hx5)
  have hxw5 := hid (hxw4.out.trans hx5)
  have hF5 := (hx5.cells BF 0 hBF4).trans hF4
  have hA5 := (hx5.cells BA 0 hBA4).trans hA4
  have hBF5 := Nat.lt_of_lt_of_le hBF4 hx5.size
  have hBA5 := Nat.lt_of_lt_of_le hBA4 hx5.size
  generalize Go.Proofs.YtoeiemeffiiidaaDoor.grow w2 d1 = W5 at HQ5 hxw5 hF5 hA5 hBF5 hBA5 ⊢
  clear HQ4 hxw4 hF4 hA4 hBF4 hBA4 hx5 hq1 hq2
  have hc5 := HQ5.out.2.1.2.2
  have hq5 := HQ5.out.1
  rw [hv] at hc5 HQ5 HB ⊢
  have hSF : ¬ tch q v BF := by
    rintro (e | e)
    · omega
    · exact absurd (HB.out _ e) (Nat.lt_irrefl _)
  have hSA : ¬ tch q v BA := by
    rintro (e | e)
    · omega
    · have := HB.out _ e; omega
  have HV := hid hv
  clear hv
  repeat' (first | (refine only_read (by rfl) (fun K hK => ?_); refine quiet_load1 61 _ rfl BF 0 rfl (.pointer (some ⟨q, 0, none⟩)) _ (fun w' hw' => (hw'.cells BF 0 hBF5 hSF).trans hF5) Tryd.underlying61 rfl ?_; refine hK _ ?_; clear hK K; simp only [Act.put, List.setIfInBounds_toArray, List.set_cons_zero, List.set_cons_succ]) | (refine only_read (by rfl) (fun K hK => ?_); refine quiet_load1 3 _ rfl BA 0 rfl (.int .i64 at_) _ (fun w' hw' => (hw'.cells BA 0 hBA5 hSA).trans hA5) Tryd.underlying3 rfl ?_; refine hK _ ?_; clear hK K; simp only [Act.put, List.setIfInBounds_toArray, List.set_cons_zero, List.set_cons_succ]) | (refine only_read (by rfl) (fun K hK => ?_); refine quiet_runD 75 rfl (.pointer (some ⟨q, 0, none⟩)) (fun w => by kernel_rfl) ?_; refine hK _ ?_; clear hK K; simp only [Act.put, List.setIfInBounds_toArray, List.set_cons_zero, List.set_cons_succ]) | (refine only_read (by rfl) (fun K hK => ?_); refine quiet_runD 76 rfl (.pointer (some ⟨q, 2, none⟩)) (fun w => by kernel_rfl) ?_; refine hK _ ?_; clear hK K; simp only [Act.put, List.setIfInBounds_toArray, List.set_cons_zero, List.set_cons_succ]) | (refine only_read (by rfl) (fun K hK => ?_); refine quiet_runD 84 rfl (.pointer (some ⟨q, 0, none⟩)) (fun w => by kernel_rfl) ?_; refine hK _ ?_; clear hK K; simp only [Act.put, List.setIfInBounds_toArray, List.set_cons_zero, List.set_cons_succ]) | (refine only_read (by rfl) (fun K hK => ?_); refine quiet_runD 85 rfl (.pointer (some ⟨q, 2, none⟩)) (fun w => by kernel_rfl) ?_; refine hK _ ?_; clear hK K; simp only [Act.put, List.setIfInBounds_toArray, List.set_cons_zero, List.set_cons_succ]) | (refine only_read (by rfl) (fun K hK => ?_); refine quiet_runD 81 rfl (.agg #[.int .i64 at_, .int .i64 (at_ + n)]) (fun w => by kernel_rfl) ?_; refine hK _ ?_; clear hK K; simp only [Act.put, List.setIfInBounds_toArray, List.set_cons_zero, List.set_cons_succ]) | (refine only_read (by rfl) (fun K hK => ?_); go_big_quiet_op; refine hK _ ?_; clear hK K))
  refine only_br ?_ ?_
  · refine only_act (by rfl) (fun K hK => ?_)
    go_wp2_with fail
    refine ⟨_, Only.refl _ _, Only.refl _ _, ?_⟩
    refine only_act (by rfl) (fun K hK => ?_)
    refine wp_build1 92 95 (.tmp 81) rfl #[.int .i64 at_, .int .i64 (at_ + n)] 2 rfl rfl (by omega) (by omega) Tryd.underlying92 (by kernel_rfl) (by kernel_rfl) ?_
    refine hK _ _ ⟨_, Only.refl _ _, Only.ofExt (Ext.alloc (Ext.refl _) _), ?_⟩
    refine only_gen (fun W => Hid (Ext W5 W) ∧ Hid (W.heap[W5.heap.size]? = some (.cells #[.int .i64 at_, .int .i64 (at_ + n)] 95 (0, 0)))) ⟨hid (Ext.alloc (Ext.refl _) _), hid (heap_alloc_new W5 _)⟩ ?_
    clear hK K
    rintro w6 ⟨hE6, hV6⟩
    have hq6 := hid (HQ5.out.ext hE6.out)
    have hc6 := hq6.out.2.1.2.2
    have hl6 := hq6.out.1
    have hS6 : Hid (Only (tch q v) W5 w6) := hid (Only.ofExt hE6.out)
    refine only_act (by rfl) (fun K hK => ?_)
    go_wp2_with (go_at_call 61; refine (eins_ w6 base ⟨at_, at_ + n⟩ W5.heap.size hV6.out _ l.length k l hq6.out.2.2.2.1 hkl (by omega) (by have := hq6.out.2.2.2.2.1; omega) (fun g hg => by have := (HQ5.out.2.2.2.1.lt g hg).2; omega)).mono ?_; rintro e w7 ⟨v7, rfl, HR7, HO7, hat7⟩; obtain ⟨A7, c7, rfl, _, _⟩ := HR7.out.shape)
    have hS7 : Hid (Only (tch q v) W5 w7) := hid (Only.trans' hS6.out (HO7.out.mono fun i e => .inr e))
    refine ⟨_, Only.refl _ _, hS7.out, ?_⟩
    have hnq : ¬ v.ownBlock = some q := fun e => hq6.out.2.2.2.2.2 q e rfl
    have hq7 : q < w7.heap.size := Nat.lt_of_lt_of_le hl6 HO7.out.size
    have d0 := (HO7.out.cells q 0 hl6 hnq).trans hq6.out.2.1.1
    have d1 := (HO7.out.cells q 1 hl6 hnq).trans hq6.out.2.1.2.1
    have d2 := (HO7.out.cells q 2 hl6 hnq).trans hc6
    have f0 := (HO7.out.frozens q 0 hl6 hnq).trans hq6.out.2.2.1.1
    have f1 := (HO7.out.frozens q 1 hl6 hnq).trans hq6.out.2.2.1.2.1
    have f2 := (HO7.out.frozens q 2 hl6 hnq).trans hq6.out.2.2.1.2.2
    have hne7 : ∀ g, (Value.slice A7 (l.length + 1) c7).ownBlock = some g → ¬ g = q := fun g hg e => by
      rcases hat7 g hg with e2 | e2
      · exact hq6.out.2.2.2.2.2 g e2 e
      · omega
    have hat8 : ∀ g, (Value.slice A7 (l.length + 1) c7).ownBlock = some g → v.ownBlock = some g ∨ W5.heap.size ≤ g := fun g hg => (hat7 g hg).imp_right fun h => Nat.le_trans hE6.out.size h
    clear hat7 hE6 hV6 hq6 hc6 hS6 HO7
    repeat' (first | (refine only_read (by rfl) (fun K hK => ?_); refine quiet_load1 61 _ rfl BF 0 rfl (.pointer (some ⟨q, 0, none⟩)) _ (fun w' hw' => (hw'.cells BF 0 hBF5 hSF).trans hF5) Tryd.underlying61 rfl ?_; refine hK _ ?_; clear hK K; simp only [Act.put, List.setIfInBounds_toArray, List.set_cons_zero, List.set_cons_succ]) | (refine only_read (by rfl) (fun K hK => ?_); refine quiet_load1 3 _ rfl BA 0 rfl (.int .i64 at_) _ (fun w' hw' => (hw'.cells BA 0 hBA5 hSA).trans hA5) Tryd.underlying3 rfl ?_; refine hK _ ?_; clear hK K; simp only [Act.put, List.setIfInBounds_toArray, List.set_cons_zero, List.set_cons_succ]) | (refine only_read (by rfl) (fun K hK => ?_); refine quiet_runD 75 rfl (.pointer (some ⟨q, 0, none⟩)) (fun w => by kernel_rfl) ?_; refine hK _ ?_; clear hK K; simp only [Act.put, List.setIfInBounds_toArray, List.set_cons_zero, List.set_cons_succ]) | (refine only_read (by rfl) (fun K hK => ?_); refine quiet_runD 76 rfl (.pointer (some ⟨q, 2, none⟩)) (fun w => by kernel_rfl) ?_; refine hK _ ?_; clear hK K; simp only [Act.put, List.setIfInBounds_toArray, List.set_cons_zero, List.set_cons_succ]) | (refine only_read (by rfl) (fun K hK => ?_); refine quiet_runD 84 rfl (.pointer (some ⟨q, 0, none⟩)) (fun w => by kernel_rfl) ?_; refine hK _ ?_; clear hK K; simp only [Act.put, List.setIfInBounds_toArray, List.set_cons_zero, List.set_cons_succ]) | (refine only_read (by rfl) (fun K hK => ?_); refine quiet_runD 85 rfl (.pointer (some ⟨q, 2, none⟩)) (fun w => by kernel_rfl) ?_; refine hK _ ?_; clear hK K; simp only [Act.put, List.setIfInBounds_toArray, List.set_cons_zero, List.set_cons_succ]) | (refine only_read (by rfl) (fun K hK => ?_); refine quiet_runD 81 rfl (.agg #[.int .i64 at_, .int .i64 (at_ + n)]) (fun w => by kernel_rfl) ?_; refine hK _ ?_; clear hK K; simp only [Act.put, List.setIfInBounds_toArray, List.set_cons_zero, List.set_cons_succ]) | (refine only_read (by rfl) (fun K hK => ?_); go_big_quiet_op; refine hK _ ?_; clear hK K))
    refine only_act (by rfl) (fun K hK => ?_)
    go_wp2_with fail
    refine ⟨_, Only.refl _ _, Only.setCell (S := tch q v) hS7.out (Or.inl (show tch q v q from Or.inl rfl)) _, ?_⟩
    refine only_nil ?_
    have hX8 : Only (tch q v) W5 (w7.setCell ⟨q, 2, none⟩ (Value.slice A7 (l.length + 1) c7)) := Only.setCell (S := tch q v) hS7.out (Or.inl (show tch q v q from Or.inl rfl)) _
    have hl8 : (l.take k ++ Pr.mk at_ (at_ + n) :: l.drop k).length = l.length + 1 := ins_len l _ k _ rfl hkl
    have hF8 : Fr (w7.setCell ⟨q, 2, none⟩ (Value.slice A7 (l.length + 1) c7)) q base fr to (Value.slice A7 (l.length + 1) c7) (l.take k ++ Pr.mk at_ (at_ + n) :: l.drop k) := by
      refine ⟨by simpa using hq7, ⟨by simp [go_sem, d0], by simp [go_sem, d1], by simp [go_sem, d2]⟩, ⟨by simp [go_sem, f0], by simp [go_sem, f1], by simp [go_sem, f2]⟩, ?_, HQ5.out.2.2.2.2.1, hne7⟩
      rw [hl8]
      exact HR7.out.only (Only.setCell (S := fun i => i = q) (Only.refl _ _) (.inl rfl) (Value.slice A7 (l.length + 1) c7)) hne7
    have HF8 := hid hF8
    have HX8 := hid hX8
    have hBF8 : BF < (w7.setCell ⟨q, 2, none⟩ (Value.slice A7 (l.length + 1) c7)).heap.size := Nat.lt_of_lt_of_le hBF5 hX8.size
    have hc8 : (w7.setCell ⟨q, 2, none⟩ (Value.slice A7 (l.length + 1) c7)).cell? ⟨BF, 0, none⟩ = some (.pointer (some ⟨q, 0, none⟩)) := (hX8.cells BF 0 hBF5 hSF).trans hF5
    generalize w7.setCell ⟨q, 2, none⟩ (Value.slice A7 (l.length + 1) c7) = W8 at HF8 HX8 hBF8 hc8 ⊢
    clear hF8 hX8 d0 d1 d2 f0 f1 f2 hS7 HR7
    obtain ⟨j, hj⟩ : ∃ j, j = k + 1 := ⟨_, rfl⟩
    have hji : (k : Int) + 1 = (j : Int) := by omega
    have HJ := hid hj
    clear hj
    have hB7 : ∀ g, (Value.slice A7 (l.length + 1) c7).ownBlock = some g → ¬ g = BF := fun g hg e => by
      rcases hat8 g hg with e2 | e2
      · have := HB.out g e2; omega
      · omega
    have hqB : ¬ q = BF := by omega
    have hl89 : (l.take k ++ Pr.mk at_ (at_ + n) :: l.drop k).length ≤ 100000000 := by omega
    go_upto_region 9 with (go_at_call 62; refine (join_ q base fr to (Value.slice A7 (l.length + 1) c7) _ _ HF8.out j hl89).mono ?_; rintro e w9 ⟨rfl, v9, HF9, HO9, hv9⟩)
    have hBF9 : BF < w9.heap.size := Nat.lt_of_lt_of_le hBF8 HO9.out.size
    have hS9 : ¬ tch q (Value.slice A7 (l.length + 1) c7) BF := by
      rintro (e | e)
      · exact hqB e.symm
      · exact hB7 _ e rfl
    have hc9 : w9.cell? ⟨BF, 0, none⟩ = some (.pointer (some ⟨q, 0, none⟩)) := (HO9.out.cells BF 0 hBF8 hS9).trans hc8
    have hl99 : (joinL (l.take k ++ Pr.mk at_ (at_ + n) :: l.drop k) j).length ≤ 100000000 := Nat.le_trans (joinL_len _ _) hl89
    clear hc8
    go_wp2_with (go_at_call 62; refine (join_ q base fr to v9 _ _ HF9.out k hl99).mono ?_; rintro e w10 ⟨rfl, v10, HF10, HO10, hv10⟩)
    go_ret
    rw [HV.out]
    have hfin : ∀ w', Only (tch q v) W5 w' → Only (tch q v) w w' := fun w' x => (Only.ofExt (S := tch q v) hxw5.out).trans x fun i e => .inl e
    refine ⟨v10, rfl, hid (by unfold giveL; rw [← HJ.out]; exact HF10.out), hid ?_, fun g hg => ?_⟩
    · refine hfin _ ((HX8.out.trans (T := tch q (Value.slice A7 (l.length + 1) c7)) HO9.out ?_).trans (T := tch q v9) HO10.out ?_)
      · rintro i (e | e)
        · exact .inl (.inl e)
        · exact (hat8 i e).imp_left .inr
      · rintro i (e | e)
        · exact .inl (.inl e)
        · exact (hat8 i (hv9 i e)).imp_left .inr
    · exact (hat8 g (hv9 g (hv10 g hg))).imp_right fun h => Nat.le_trans hxw5.out.size h
  · refine only_act (by rfl) (fun K hK => ?_)
    refine wp_build1 92 95 (.tmp 81) rfl #[.int .i64 at_, .int .i64 (at_ + n)] 2 rfl rfl (by omega) (by omega) Tryd.underlying92 (by kernel_rfl) (by kernel_rfl) ?_
    refine hK _ _ ⟨_, Only.refl _ _, Only.ofExt (Ext.alloc (Ext.refl _) _), ?_⟩
    refine only_gen (fun W => Hid (Ext W5 W) ∧ Hid (W.heap[W5.heap.size]? = some (.cells #[.int .i64 at_, .int .i64 (at_ + n)] 95 (0, 0)))) ⟨hid (Ext.alloc (Ext.refl _) _), hid (heap_alloc_new W5 _)⟩ ?_
    clear hK K
    rintro w6 ⟨hE6, hV6⟩
    have hq6 := hid (HQ5.out.ext hE6.out)
    have hc6 := hq6.out.2.1.2.2
    have hl6 := hq6.out.1
    have hS6 : Hid (Only (tch q v) W5 w6) := hid (Only.ofExt hE6.out)
    refine only_act (by rfl) (fun K hK => ?_)
    go_wp2_with fail
    refine ⟨_, Only.refl _ _, hS6.out, ?_⟩
    refine only_act (by rfl) (fun K hK => ?_)
    go_wp2_with (go_at_call 61; refine (eins_ w6 base ⟨at_, at_ + n⟩ W5.heap.size hV6.out _ l.length k l hq6.out.2.2.2.1 hkl (by omega) (by have := hq6.out.2.2.2.2.1; omega) (fun g hg => by have := (HQ5.out.2.2.2.1.lt g hg).2; omega)).mono ?_; rintro e w7 ⟨v7, rfl, HR7, HO7, hat7⟩; obtain ⟨A7, c7, rfl, _, _⟩ := HR7.out.shape)
    have hS7 : Hid (Only (tch q v) W5 w7) := hid (Only.trans' hS6.out (HO7.out.mono fun i e => .inr e))
    refine ⟨_, Only.refl _ _, hS7.out, ?_⟩
    have hnq : ¬ v.ownBlock = some q := fun e => hq6.out.2.2.2.2.2 q e rfl
    have hq7 : q < w7.heap.size := Nat.lt_of_lt_of_le hl6 HO7.out.size
    have d0 := (HO7.out.cells q 0 hl6 hnq).trans hq6.out.2.1.1
    have d1 := (HO7.out.cells q 1 hl6 hnq).trans hq6.out.2.1.2.1
    have d2 := (HO7.out.cells q 2 hl6 hnq).trans hc6
    have f0 := (HO7.out.frozens q 0 hl6 hnq).trans hq6.out.2.2.1.1
    have f1 := (HO7.out.frozens q 1 hl6 hnq).trans hq6.out.2.2.1.2.1
    have f2 := (HO7.out.frozens q 2 hl6 hnq).trans hq6.out.2.2.1.2.2
    have hne7 : ∀ g, (Value.slice A7 (l.length + 1) c7).ownBlock = some g → ¬ g = q := fun g hg e => by
      rcases hat7 g hg with e2 | e2
      · exact hq6.out.2.2.2.2.2 g e2 e
      · omega
    have hat8 : ∀ g, (Value.slice A7 (l.length + 1) c7).ownBlock = some g → v.ownBlock = some g ∨ W5.heap.size ≤ g := fun g hg => (hat7 g hg).imp_right fun h => Nat.le_trans hE6.out.size h
    clear hat7 hE6 hV6 hq6 hc6 hS6 HO7
    repeat' (first | (refine only_read (by rfl) (fun K hK => ?_); refine quiet_load1 61 _ rfl BF 0 rfl (.pointer (some ⟨q, 0, none⟩)) _ (fun w' hw' => (hw'.cells BF 0 hBF5 hSF).trans hF5) Tryd.underlying61 rfl ?_; refine hK _ ?_; clear hK K; simp only [Act.put, List.setIfInBounds_toArray, List.set_cons_zero, List.set_cons_succ]) | (refine only_read (by rfl) (fun K hK => ?_); refine quiet_load1 3 _ rfl BA 0 rfl (.int .i64 at_) _ (fun w' hw' => (hw'.cells BA 0 hBA5 hSA).trans hA5) Tryd.underlying3 rfl ?_; refine hK _ ?_; clear hK K; simp only [Act.put, List.setIfInBounds_toArray, List.set_cons_zero, List.set_cons_succ]) | (refine only_read (by rfl) (fun K hK => ?_); refine quiet_runD 75 rfl (.pointer (some ⟨q, 0, none⟩)) (fun w => by kernel_rfl) ?_; refine hK _ ?_; clear hK K; simp only [Act.put, List.setIfInBounds_toArray, List.set_cons_zero, List.set_cons_succ]) | (refine only_read (by rfl) (fun K hK => ?_); refine quiet_runD 76 rfl (.pointer (some ⟨q, 2, none⟩)) (fun w => by kernel_rfl) ?_; refine hK _ ?_; clear hK K; simp only [Act.put, List.setIfInBounds_toArray, List.set_cons_zero, List.set_cons_succ]) | (refine only_read (by rfl) (fun K hK => ?_); refine quiet_runD 84 rfl (.pointer (some ⟨q, 0, none⟩)) (fun w => by kernel_rfl) ?_; refine hK _ ?_; clear hK K; simp only [Act.put, List.setIfInBounds_toArray, List.set_cons_zero, List.set_cons_succ]) | (refine only_read (by rfl) (fun K hK => ?_); refine quiet_runD 85 rfl (.pointer (some ⟨q, 2, none⟩)) (fun w => by kernel_rfl) ?_; refine hK _ ?_; clear hK K; simp only [Act.put, List.setIfInBounds_toArray, List.set_cons_zero, List.set_cons_succ]) | (refine only_read (by rfl) (fun K hK => ?_); refine quiet_runD 81 rfl (.agg #[.int .i64 at_, .int .i64 (at_ + n)]) (fun w => by kernel_rfl) ?_; refine hK _ ?_; clear hK K; simp only [Act.put, List.setIfInBounds_toArray, List.set_cons_zero, List.set_cons_succ]) | (refine only_read (by rfl) (fun K hK => ?_); go_big_quiet_op; refine hK _ ?_; clear hK K))
    refine only_act (by rfl) (fun K hK => ?_)
    go_wp2_with fail
    refine ⟨_, Only.refl _ _, Only.setCell (S := tch q v) hS7.out (Or.inl (show tch q v q from Or.inl rfl)) _, ?_⟩
    refine only_nil ?_
    have hX8 : Only (tch q v) W5 (w7.setCell ⟨q, 2, none⟩ (Value.slice A7 (l.length + 1) c7)) := Only.setCell (S := tch q v) hS7.out (Or.inl (show tch q v q from Or.inl rfl)) _
    have hl8 : (l.take k ++ Pr.mk at_ (at_ + n) :: l.drop k).length = l.length + 1 := ins_len l _ k _ rfl hkl
    have hF8 : Fr (w7.setCell ⟨q, 2, none⟩ (Value.slice A7 (l.length + 1) c7)) q base fr to (Value.slice A7 (l.length + 1) c7) (l.take k ++ Pr.mk at_ (at_ + n) :: l.drop k) := by
      refine ⟨by simpa using hq7, ⟨by simp [go_sem, d0], by simp [go_sem, d1], by simp [go_sem, d2]⟩, ⟨by simp [go_sem, f0], by simp [go_sem, f1], by simp [go_sem, f2]⟩, ?_, HQ5.out.2.2.2.2.1, hne7⟩
      rw [hl8]
      exact HR7.out.only (Only.setCell (S := fun i => i = q) (Only.refl _ _) (.inl rfl) (Value.slice A7 (l.length + 1) c7)) hne7
    have HF8 := hid hF8
    have HX8 := hid hX8
    have hBF8 : BF < (w7.setCell ⟨q, 2, none⟩ (Value.slice A7 (l.length + 1) c7)).heap.size := Nat.lt_of_lt_of_le hBF5 hX8.size
    have hc8 : (w7.setCell ⟨q, 2, none⟩ (Value.slice A7 (l.length + 1) c7)).cell? ⟨BF, 0, none⟩ = some (.pointer (some ⟨q, 0, none⟩)) := (hX8.cells BF 0 hBF5 hSF).trans hF5
    generalize w7.setCell ⟨q, 2, none⟩ (Value.slice A7 (l.length + 1) c7) = W8 at HF8 HX8 hBF8 hc8 ⊢
    clear hF8 hX8 d0 d1 d2 f0 f1 f2 hS7 HR7
    obtain ⟨j, hj⟩ : ∃ j, j = k + 1 := ⟨_, rfl⟩
    have hji : (k : Int) + 1 = (j : Int) := by omega
    have HJ := hid hj
    clear hj
    have hB7 : ∀ g, (Value.slice A7 (l.length + 1) c7).ownBlock = some g → ¬ g = BF := fun g hg e => by
      rcases hat8 g hg with e2 | e2
      · have := HB.out g e2; omega
      · omega
    have hqB : ¬ q = BF := by omega
    have hl89 : (l.take k ++ Pr.mk at_ (at_ + n) :: l.drop k).length ≤ 100000000 := by omega
    go_upto_region 9 with (go_at_call 62; refine (join_ q base fr to (Value.slice A7 (l.length + 1) c7) _ _ HF8.out j hl89).mono ?_; rintro e w9 ⟨rfl, v9, HF9, HO9, hv9⟩)
    have hBF9 : BF < w9.heap.size := Nat.lt_of_lt_of_le hBF8 HO9.out.size
    have hS9 : ¬ tch q (Value.slice A7 (l.length + 1) c7) BF := by
      rintro (e | e)
      · exact hqB e.symm
      · exact hB7 _ e rfl
    have hc9 : w9.cell? ⟨BF, 0, none⟩ = some (.pointer (some ⟨q, 0, none⟩)) := (HO9.out.cells BF 0 hBF8 hS9).trans hc8
    have hl99 : (joinL (l.take k ++ Pr.mk at_ (at_ + n) :: l.drop k) j).length ≤ 100000000 := Nat.le_trans (joinL_len _ _) hl89
    clear hc8
    go_wp2_with (go_at_call 62; refine (join_ q base fr to v9 _ _ HF9.out k hl99).mono ?_; rintro e w10 ⟨rfl, v10, HF10, HO10, hv10⟩)
    go_ret
    rw [HV.out]
    have hfin : ∀ w', Only (tch q v) W5 w' → Only (tch q v) w w' := fun w' x => (Only.ofExt (S := tch q v) hxw5.out).trans x fun i e => .inl e
    refine ⟨v10, rfl, hid (by unfold giveL; rw [← HJ.out]; exact HF10.out), hid ?_, fun g hg => ?_⟩
    · refine hfin _ ((HX8.out.trans (T := tch q (Value.slice A7 (l.length + 1) c7)) HO9.out ?_).trans (T := tch q v9) HO10.out ?_)
      · rintro i (e | e)
        · exact .inl (.inl e)
        · exact (hat8 i e).imp_left .inr
      · rintro i (e | e)
        · exact .inl (.inl e)
        · exact (hat8 i (hv9 i e)).imp_left .inr
    · exact (hat8 g (hv9 g (hv10 g hg))).imp_right fun h => Nat.le_trans hxw5.out.size h
end Go.Proofs.YtoeiemeffiiidaaDoor

namespace Go.Proofs.YtoeiemeffiiidaaDoor
set_option maxRecDepth 100000
set_option linter.unusedSimpArgs false
set_option linter.unusedVariables false
open Go.RowKit

set_option maxRecDepth 100000 in
set_option maxHeartbeats 4000000 in
theorem give_yes1 (q base : Nat) (fr to : Int) (v : Value) (l : List Pr) (w : World) (h : Fr w q base fr to v l) (at_ n : Int) (hg : [at_, n].all g16 = true) (hb0 : 0 ≤ fr) (hb1 : to ≤ 16777216) (h0 : 1 ≤ n) (h1 : fr ≤ at_) (h2 : at_ ≤ to) (h3 : n ≤ to - at_) (hl9 : l.length ≤ 10000000)
    (hmono : ∀ (a b : Nat) (hb : b < l.length) (hab : a ≤ b), at_ < (l[a]'(by omega)).hi → at_ < (l[b]).hi) (k : Nat) (hkl : k ≤ l.length) (hlow : ∀ (j : Nat) (hj : j < l.length), j < k → (l[j]).hi ≤ at_) (hhigh : ∀ hk : k < l.length, at_ < (l[k]).hi) (hk : k < l.length) (hge : at_ + n ≤ (l[k]).lo) : Calls Tryd.prog 39 #[.pointer (some ⟨q, 0, none⟩), .int .i64 at_, .int .i64 n] w fun e w' => ∃ v', e = .returned (.bool true) ∧ Hid (Fr w' q base fr to v' (giveL l k ⟨at_, at_ + n⟩)) ∧ Hid (Only (tch q v) w w') ∧ (∀ g, v'.ownBlock = some g → v.ownBlock = some g ∨ w.heap.size ≤ g) := by
  have HMO := hid hmono
  have HLO := hid hlow
  have HHI := hid hhigh
  clear hmono hlow hhigh
  obtain ⟨A, ca, rfl, hca, hnil⟩ := h.2.2.2.1.shape
  have HQ := hid h
  have hqw := h.1
  have HB : Hid (∀ g, (Value.slice A l.length ca).ownBlock = some g → g < w.heap.size) := hid (fun g e => (h.2.2.2.1.lt g e).2)
  clear h
  have HG := hid hg
  clear hg
  go_enter Tryd.func39, Tryd.ntmps39
  go_upto_region 1 with (fail)
  refine wp_gen (fun W => Hid (Ext w W) ∧ Hid (W.cell? ⟨w.heap.size, 0, none⟩ = some (.pointer (some ⟨q, 0, none⟩))) ∧ Hid (W.cell? ⟨w.heap.size + 1, 0, none⟩ = some (.int .i64 at_)) ∧ w.heap.size + 1 < W.heap.size) ⟨hid (by repeat (first | (with_reducible exact Ext.refl _) | (with_reducible refine Ext.undrew ?_) | (with_reducible refine Ext.grow ?_ _) | (with_reducible refine Ext.drew ?_) | (with_reducible refine Ext.drewN ?_ _) | (with_reducible refine Ext.alloc ?_ _) | (with_reducible assumption) | ((with_reducible refine Ext.setCell ?_ ?_ _); rotate_left; (first | exact Nat.le_refl _ | ((try dsimp only); (try simp only [World.size_alloc, grow_size, World.size_setCell]); omega))))), hid (by simp [go_sem]), hid (by simp [go_sem]), by simp⟩ ?_
  rintro W0 ⟨hx0, hF0, hA0, hBl⟩
  obtain ⟨BF, hBF⟩ : ∃ x, w.heap.size = x := ⟨_, rfl⟩
  obtain ⟨BA, hBA⟩ : ∃ x, w.heap.size + 1 = x := ⟨_, rfl⟩
  rw [hBF] at hF0 HB ⊢
  rw [hBF] at hBA hBl
  rw [← hBF] at hBA
  (try rw [hBF] at hBA)
  rw [hBA] at hBl ⊢
  have hA0 : Hid (W0.cell? ⟨BA, 0, none⟩ = some (.int .i64 at_)) := hid (by have := hA0.out; rwa [hBF, hBA] at this)
  have hqBF : q < BF := by omega
  have hfBA : BF < BA := by omega
  refine wp_region_step (.rd 0 (.rd 1 (.ac 2 (.ac 3 (.rd 4 (.rd 5 (.rd 6 (.rd 7 (.rd 8 (.rd 9 (.rd 10 (.rd 11 (.rd 12 (.rd 13 (.rd 14 (.rd 15 (.rd 16 (.rd 17 (.rd 18 (.rd 19 (.rd 20 (.rd 21 (.rd 22 (.rd 23 (.rd 24 (.rd 25 (.rd 26 (.rd 27 (.rd 28 (.rd 29 (.rd 30 (.rd 31 (.rd 32 (.rd 33 (.rd 34 .done))))))))))))))))))))))))))))))))))) (by kernel_rfl) (by kernel_rfl) (fun _ _ d _ _ h => by cases d <;> exact h) (by simp only [Ord.map, nthOp, List.append]; rfl) ?_
  intro d0
  have hx1 : Ext W0 (Go.Proofs.YtoeiemeffiiidaaDoor.grow W0 d0) := Ext.grow (Ext.refl _) d0
  have hx2 := hid (hx0.out.trans hx1)
  have hF := (hx1.cells BF 0 (by omega)).trans hF0.out
  have hA := (hx1.cells BA 0 hBl).trans hA0.out
  have hBl1 := Nat.lt_of_lt_of_le hBl hx1.size
  generalize Go.Proofs.YtoeiemeffiiidaaDoor.grow W0 d0 = W at hx2 hF hA hBl1 ⊢
  clear hx0 hx1 hF0 hA0 hBl
  have hBl2 : BF < W.heap.size := by omega
  have HQ2 := hid (HQ.out.ext hx2.out)
  have hq1 := HQ2.out.1
  obtain ⟨a0, a1, a2⟩ := HQ2.out.2.1
  have hqF : ¬ q = BF := by omega
  iterate 2 (refine step_read (by rfl) (fun K hK => ?_); go_big_quiet_op; refine hK _ ?_; clear hK K)
  iterate 2 (refine step_act (by rfl) (fun K hK => ?_); go_wp2_with (first | (go_at_call 51; refine (gran_ (some ⟨W.heap.size, 0, none⟩) 2 [at_, n] _ (slAtNew W [.int .i64 at_, .int .i64 n] _) (by simp)).mono ?_; rw [HG.out]; rintro e w1 ⟨rfl, hx1⟩)); refine ⟨_, (by repeat (first | (with_reducible exact Ext.refl _) | (with_reducible refine Ext.undrew ?_) | (with_reducible refine Ext.grow ?_ _) | (with_reducible refine Ext.drew ?_) | (with_reducible refine Ext.drewN ?_ _) | (with_reducible refine Ext.alloc ?_ _) | (with_reducible assumption) | ((with_reducible refine Ext.setCell ?_ ?_ _); rotate_left; (first | exact Nat.le_refl _ | ((try dsimp only); (try simp only [World.size_alloc, grow_size, World.size_setCell]); omega))))), Ext.refl _, ?_⟩)
  have hxW := (Ext.alloc (Ext.refl W) (.cells #[.int .i64 at_, .int .i64 n] 3)).trans hx1
  have HQ3 := hid (HQ2.out.ext hxW)
  have hF3 := (hxW.cells BF 0 hBl2).trans hF
  have hA3 := (hxW.cells BA 0 hBl1).trans hA
  have hBF3 := Nat.lt_of_lt_of_le hBl2 hxW.size
  have hBA3 := Nat.lt_of_lt_of_le hBl1 hxW.size
  have hxw3 := hid (hx2.out.trans hxW)
  clear hF hA hBl1 hBl2 hx1 hxW hx2 a0 a1 a2 hq1
  have hq1 := HQ3.out.1
  obtain ⟨a0, a1, a2⟩ := HQ3.out.2.1
  have k0 : ¬ n < 1 := by omega
  have k1 : ¬ at_ < fr := by omega
  have k2 : ¬ to < at_ := by omega
  have hw : wrap64 (to - at_) = to - at_ := wrapP (by omega) (by omega)
  have k3 : ¬ to - at_ < n := by omega
  apply step_quiet
  repeat (first | exact IsOrd.nil | apply IsOrd.cons)
  (repeat (go_big_quiet_step (fail)))
  refine wpQuiet_nil ?_
  clear k0 k1 k2 hw k3 a0 a1 a2 hq1
  have hwe : wrap64 (at_ + n) = at_ + n := wrapP (by omega) (by omega)
  have HF3 := hid hF3
  have HA3 := hid hA3
  have hF3' := hF3
  have hq1 := HQ3.out.1
  have hq2 := HQ3.out.2.1.2.2
  go_upto_region 5 with (go_at_call 59; refine (search_ q base fr to _ l _ HQ3.out BF BA at_ HF3.out HA3.out hBF3 hBA3 (by omega) HMO.out).mono ?_; rintro e w2 ⟨k', rfl, hkl', hlow', hhigh', hx2⟩; obtain rfl : k = k' := srch_uniq HLO.out HHI.out hkl hlow' hhigh' hkl')
  have HQ4 := hid (HQ3.out.ext hx2)
  have hxw4 := hid (hxw3.out.trans hx2)
  have hF4 := (hx2.cells BF 0 hBF3).trans hF3
  have hA4 := (hx2.cells BA 0 hBA3).trans hA3
  have hBF4 := Nat.lt_of_lt_of_le hBF3 hx2.size
  have hBA4 := Nat.lt_of_lt_of_le hBA3 hx2.size
  clear HQ3 hxw3 hF3 hA3 hF3' HF3 HA3 hBF3 hBA3 hx2 hq1 hq2 hlow' hhigh' hkl' HMO
  have hq1 := HQ4.out.1
  have hq2 := HQ4.out.2.1.2.2
  obtain ⟨b, o, hAb, hb, c0, _⟩ := (HQ4.out.2.2.2.1.rdP rfl).two hk
  have hlo : ¬ (l[k]).lo < at_ + n := by omega
  clear hge
  generalize (l[k]).lo = xl at c0 hlo
  have k5 : (k : Int) < (l.length : Int) := by omega
  have k6 : (0 : Int) ≤ (k : Int) := by omega
  subst hAb
  go_upto_region 7 with (fail)
  obtain ⟨v, hv⟩ : ∃ v, Value.slice (some ⟨b, o, none⟩) l.length ca = v := ⟨_, rfl⟩
  refine wp_region_only (S := tch q (Value.slice (some ⟨b, o, none⟩) l.length ca)) (.rd 0 (.rd 1 (.rd 2 (.rd 3 (.rd 5 (.rd 6 (.rd 7 (.rd 8 (.br 4 (.ac 9 (.ac 10 (.rd 11 (.rd 12 (.ac 13 .done))))) 9 (.ac 4 (.ac 10 (.rd 11 (.rd 12 (.ac 13 .done)))))))))))))) (by kernel_rfl) (by kernel_rfl) (fun _ _ d _ _ h => by cases d <;> exact h) (by simp only [Ord.map, nthOp, List.append]; rfl) ?_
  intro d1
  have hx5 : Ext w2 (Go.Proofs.YtoeiemeffiiidaaDoor.grow w2 d1) := Ext.grow (Ext.refl _) d1
  have HQ5 := hid (HQ4.out.ext hx5)
  have hxw5 := hid (hxw4.out.trans hx5)
  have hF5 := (hx5.cells BF 0 hBF4).trans hF4
  have hA5 := (hx5.cells BA 0 hBA4).trans hA4
  have hBF5 := Nat.lt_of_lt_of_le hBF4 hx5.size
  have hBA5 := Nat.lt_of_lt_of_le hBA4 hx5.size
  generalize Go.Proofs.YtoeiemeffiiidaaDoor.grow w2 d1 = W5 at HQ5 hxw5 hF5 hA5 hBF5 hBA5 ⊢
  clear HQ4 hxw4 hF4 hA4 hBF4 hBA4 hx5 hq1 hq2
  have hc5 := HQ5.out.2.1.2.2
  have hq5 := HQ5.out.1
  rw [hv] at hc5 HQ5 HB ⊢
  have hSF : ¬ tch q v BF := by
    rintro (e | e)
    · omega
    · exact absurd (HB.out _ e) (Nat.lt_irrefl _)
  have hSA : ¬ tch q v BA := by
    rintro (e | e)
    · omega
    · have := HB.out _ e; omega
  have HV := hid hv
  clear hv
  repeat' (first | (refine only_read (by rfl) (fun K hK => ?_); refine quiet_load1 61 _ rfl BF 0 rfl (.pointer (some ⟨q, 0, none⟩)) _ (fun w' hw' => (hw'.cells BF 0 hBF5 hSF).trans hF5) Tryd.underlying61 rfl ?_; refine hK _ ?_; clear hK K; simp only [Act.put, List.setIfInBounds_toArray, List.set_cons_zero, List.set_cons_succ]) | (refine only_read (by rfl) (fun K hK => ?_); refine quiet_load1 3 _ rfl BA 0 rfl (.int .i64 at_) _ (fun w' hw' => (hw'.cells BA 0 hBA5 hSA).trans hA5) Tryd.underlying3 rfl ?_; refine hK _ ?_; clear hK K; simp only [Act.put, List.setIfInBounds_toArray, List.set_cons_zero, List.set_cons_succ]) | (refine only_read (by rfl) (fun K hK => ?_); refine quiet_runD 75 rfl (.pointer (some ⟨q, 0, none⟩)) (fun w => by kernel_rfl) ?_; refine hK _ ?_; clear hK K; simp only [Act.put, List.setIfInBounds_toArray, List.set_cons_zero, List.set_cons_succ]) | (refine only_read (by rfl) (fun K hK => ?_); refine quiet_runD 76 rfl (.pointer (some ⟨q, 2, none⟩)) (fun w => by kernel_rfl) ?_; refine hK _ ?_; clear hK K; simp only [Act.put, List.setIfInBounds_toArray, List.set_cons_zero, List.set_cons_succ]) | (refine only_read (by rfl) (fun K hK => ?_); refine quiet_runD 84 rfl (.pointer (some ⟨q, 0, none⟩)) (fun w => by kernel_rfl) ?_; refine hK _ ?_; clear hK K; simp only [Act.put, List.setIfInBounds_toArray, List.set_cons_zero, List.set_cons_succ]) | (refine only_read (by rfl) (fun K hK => ?_); refine quiet_runD 85 rfl (.pointer (some ⟨q, 2, none⟩)) (fun w => by kernel_rfl) ?_; refine hK _ ?_; clear hK K; simp only [Act.put, List.setIfInBounds_toArray, List.set_cons_zero, List.set_cons_succ]) | (refine only_read (by rfl) (fun K hK => ?_); refine quiet_runD 81 rfl (.agg #[.int .i64 at_, .int .i64 (at_ + n)]) (fun w => by kernel_rfl) ?_; refine hK _ ?_; clear hK K; simp only [Act.put, List.setIfInBounds_toArray, List.set_cons_zero, List.set_cons_succ]) | (refine only_read (by rfl) (fun K hK => ?_); go_big_quiet_op; refine hK _ ?_; clear hK K))
  refine only_br ?_ ?_
  · refine only_act (by rfl) (fun K hK => ?_)
    go_wp2_with fail
    refine ⟨_, Only.refl _ _, Only.refl _ _, ?_⟩
    refine only_act (by rfl) (fun K hK => ?_)
    refine wp_build1 92 95 (.tmp 81) rfl #[.int .i64 at_, .int .i64 (at_ + n)] 2 rfl rfl (by omega) (by omega) Tryd.underlying92 (by kernel_rfl) (by kernel_rfl) ?_
    refine hK _ _ ⟨_, Only.refl _ _, Only.ofExt (Ext.alloc (Ext.refl _) _), ?_⟩
    refine only_gen (fun W => Hid (Ext W5 W) ∧ Hid (W.heap[W5.heap.size]? = some (.cells #[.int .i64 at_, .int .i64 (at_ + n)] 95 (0, 0)))) ⟨hid (Ext.alloc (Ext.refl _) _), hid (heap_alloc_new W5 _)⟩ ?_
    clear hK K
    rintro w6 ⟨hE6, hV6⟩
    have hq6 := hid (HQ5.out.ext hE6.out)
    have hc6 := hq6.out.2.1.2.2
    have hl6 := hq6.out.1
    have hS6 : Hid (Only (tch q v) W5 w6) := hid (Only.ofExt hE6.out)
    refine only_act (by rfl) (fun K hK => ?_)
    go_wp2_with (go_at_call 61; refine (eins_ w6 base ⟨at_, at_ + n⟩ W5.heap.size hV6.out _ l.length k l hq6.out.2.2.2.1 hkl (by omega) (by have := hq6.out.2.2.2.2.1; omega) (fun g hg => by have := (HQ5.out.2.2.2.1.lt g hg).2; omega)).mono ?_; rintro e w7 ⟨v7, rfl, HR7, HO7, hat7⟩; obtain ⟨A7, c7, rfl, _, _⟩ := HR7.out.shape)
    have hS7 : Hid (Only (tch q v) W5 w7) := hid (Only.trans' hS6.out (HO7.out.mono fun i e => .inr e))
    refine ⟨_, Only.refl _ _, hS7.out, ?_⟩
    have hnq : ¬ v.ownBlock = some q := fun e => hq6.out.2.2.2.2.2 q e rfl
    have hq7 : q < w7.heap.size := Nat.lt_of_lt_of_le hl6 HO7.out.size
    have d0 := (HO7.out.cells q 0 hl6 hnq).trans hq6.out.2.1.1
    have d1 := (HO7.out.cells q 1 hl6 hnq).trans hq6.out.2.1.2.1
    have d2 := (HO7.out.cells q 2 hl6 hnq).trans hc6
    have f0 := (HO7.out.frozens q 0 hl6 hnq).trans hq6.out.2.2.1.1
    have f1 := (HO7.out.frozens q 1 hl6 hnq).trans hq6.out.2.2.1.2.1
    have f2 := (HO7.out.frozens q 2 hl6 hnq).trans hq6.out.2.2.1.2.2
    have hne7 : ∀ g, (Value.slice A7 (l.length + 1) c7).ownBlock = some g → ¬ g = q := fun g hg e => by
      rcases hat7 g hg with e2 | e2
      · exact hq6.out.2.2.2.2.2 g e2 e
      · omega
    have hat8 : ∀ g, (Value.slice A7 (l.length + 1) c7).ownBlock = some g → v.ownBlock = some g ∨ W5.heap.size ≤ g := fun g hg => (hat7 g hg).imp_right fun h => Nat.le_trans hE6.out.size h
    clear hat7 hE6 hV6 hq6 hc6 hS6 HO7
    repeat' (first | (refine only_read (by rfl) (fun K hK => ?_); refine quiet_load1 61 _ rfl BF 0 rfl (.pointer (some ⟨q, 0, none⟩)) _ (fun w' hw' => (hw'.cells BF 0 hBF5 hSF).trans hF5) Tryd.underlying61 rfl ?_; refine hK _ ?_; clear hK K; simp only [Act.put, List.setIfInBounds_toArray, List.set_cons_zero, List.set_cons_succ]) | (refine only_read (by rfl) (fun K hK => ?_); refine quiet_load1 3 _ rfl BA 0 rfl (.int .i64 at_) _ (fun w' hw' => (hw'.cells BA 0 hBA5 hSA).trans hA5) Tryd.underlying3 rfl ?_; refine hK _ ?_; clear hK K; simp only [Act.put, List.setIfInBounds_toArray, List.set_cons_zero, List.set_cons_succ]) | (refine only_read (by rfl) (fun K hK => ?_); refine quiet_runD 75 rfl (.pointer (some ⟨q, 0, none⟩)) (fun w => by kernel_rfl) ?_; refine hK _ ?_; clear hK K; simp only [Act.put, List.setIfInBounds_toArray, List.set_cons_zero, List.set_cons_succ]) | (refine only_read (by rfl) (fun K hK => ?_); refine quiet_runD 76 rfl (.pointer (some ⟨q, 2, none⟩)) (fun w => by kernel_rfl) ?_; refine hK _ ?_; clear hK K; simp only [Act.put, List.setIfInBounds_toArray, List.set_cons_zero, List.set_cons_succ]) | (refine only_read (by rfl) (fun K hK => ?_); refine quiet_runD 84 rfl (.pointer (some ⟨q, 0, none⟩)) (fun w => by kernel_rfl) ?_; refine hK _ ?_; clear hK K; simp only [Act.put, List.setIfInBounds_toArray, List.set_cons_zero, List.set_cons_succ]) | (refine only_read (by rfl) (fun K hK => ?_); refine quiet_runD 85 rfl (.pointer (some ⟨q, 2, none⟩)) (fun w => by kernel_rfl) ?_; refine hK _ ?_; clear hK K; simp only [Act.put, List.setIfInBounds_toArray, List.set_cons_zero, List.set_cons_succ]) | (refine only_read (by rfl) (fun K hK => ?_); refine quiet_runD 81 rfl (.agg #[.int .i64 at_, .int .i64 (at_ + n)]) (fun w => by kernel_rfl) ?_; refine hK _ ?_; clear hK K; simp only [Act.put, List.setIfInBounds_toArray, List.set_cons_zero, List.set_cons_succ]) | (refine only_read (by rfl) (fun K hK => ?_); go_big_quiet_op; refine hK _ ?_; clear hK K))
    refine only_act (by rfl) (fun K hK => ?_)
    go_wp2_with fail
    refine ⟨_, Only.refl _ _, Only.setCell (S := tch q v) hS7.out (Or.inl (show tch q v q from Or.inl rfl)) _, ?_⟩
    refine only_nil ?_
    have hX8 : Only (tch q v) W5 (w7.setCell ⟨q, 2, none⟩ (Value.slice A7 (l.length + 1) c7)) := Only.setCell (S := tch q v) hS7.out (Or.inl (show tch q v q from Or.inl rfl)) _
    have hl8 : (l.take k ++ Pr.mk at_ (at_ + n) :: l.drop k).length = l.length + 1 := ins_len l _ k _ rfl hkl
    have hF8 : Fr (w7.setCell ⟨q, 2, none⟩ (Value.slice A7 (l.length + 1) c7)) q base fr to (Value.slice A7 (l.length + 1) c7) (l.take k ++ Pr.mk at_ (at_ + n) :: l.drop k) := by
      refine ⟨by simpa using hq7, ⟨by simp [go_sem, d0], by simp [go_sem, d1], by simp [go_sem, d2]⟩, ⟨by simp [go_sem, f0], by simp [go_sem, f1], by simp [go_sem, f2]⟩, ?_, HQ5.out.2.2.2.2.1, hne7⟩
      rw [hl8]
      exact HR7.out.only (Only.setCell (S := fun i => i = q) (Only.refl _ _) (.inl rfl) (Value.slice A7 (l.length + 1) c7)) hne7
    have HF8 := hid hF8
    have HX8 := hid hX8
    have hBF8 : BF < (w7.setCell ⟨q, 2, none⟩ (Value.slice A7 (l.length + 1) c7)).heap.size := Nat.lt_of_lt_of_le hBF5 hX8.size
    have hc8 : (w7.setCell ⟨q, 2, none⟩ (Value.slice A7 (l.length + 1) c7)).cell? ⟨BF, 0, none⟩ = some (.pointer (some ⟨q, 0, none⟩)) := (hX8.cells BF 0 hBF5 hSF).trans hF5
    generalize w7.setCell ⟨q, 2, none⟩ (Value.slice A7 (l.length + 1) c7) = W8 at HF8 HX8 hBF8 hc8 ⊢
    clear hF8 hX8 d0 d1 d2 f0 f1 f2 hS7 HR7
    obtain ⟨j, hj⟩ : ∃ j, j = k + 1 := ⟨_, rfl⟩
    have hji : (k : Int) + 1 = (j : Int) := by omega
    have HJ := hid hj
    clear hj
    have hB7 : ∀ g, (Value.slice A7 (l.length + 1) c7).ownBlock = some g → ¬ g = BF := fun g hg e => by
      rcases hat8 g hg with e2 | e2
      · have := HB.out g e2; omega
      · omega
    have hqB : ¬ q = BF := by omega
    have hl89 : (l.take k ++ Pr.mk at_ (at_ + n) :: l.drop k).length ≤ 100000000 := by omega
    go_upto_region 9 with (go_at_call 62; refine (join_ q base fr to (Value.slice A7 (l.length + 1) c7) _ _ HF8.out j hl89).mono ?_; rintro e w9 ⟨rfl, v9, HF9, HO9, hv9⟩)
    have hBF9 : BF < w9.heap.size := Nat.lt_of_lt_of_le hBF8 HO9.out.size
    have hS9 : ¬ tch q (Value.slice A7 (l.length + 1) c7) BF := by
      rintro (e | e)
      · exact hqB e.symm
      · exact hB7 _ e rfl
    have hc9 : w9.cell? ⟨BF, 0, none⟩ = some (.pointer (some ⟨q, 0, none⟩)) := (HO9.out.cells BF 0 hBF8 hS9).trans hc8
    have hl99 : (joinL (l.take k ++ Pr.mk at_ (at_ + n) :: l.drop k) j).length ≤ 100000000 := Nat.le_trans (joinL_len _ _) hl89
    clear hc8
    go_wp2_with (go_at_call 62; refine (join_ q base fr to v9 _ _ HF9.out k hl99).mono ?_; rintro e w10 ⟨rfl, v10, HF10, HO10, hv10⟩)
    go_ret
    rw [HV.out]
    have hfin : ∀ w', Only (tch q v) W5 w' → Only (tch q v) w w' := fun w' x => (Only.ofExt (S := tch q v) hxw5.out).trans x fun i e => .inl e
    refine ⟨v10, rfl, hid (by unfold giveL; rw [← HJ.out]; exact HF10.out), hid ?_, fun g hg => ?_⟩
    · refine hfin _ ((HX8.out.trans (T := tch q (Value.slice A7 (l.length + 1) c7)) HO9.out ?_).trans (T := tch q v9) HO10.out ?_)
      · rintro i (e | e)
        · exact .inl (.inl e)
        · exact (hat8 i e).imp_left .inr
      · rintro i (e | e)
        · exact .inl (.inl e)
        · exact (hat8 i (hv9 i e)).imp_left .inr
    · exact (hat8 g (hv9 g (hv10 g hg))).imp_right fun h => Nat.le_trans hxw5.out.size h
  · refine only_act (by rfl) (fun K hK => ?_)
    refine wp_build1 92 95 (.tmp 81) rfl #[.int .i64 at_, .int .i64 (at_ + n)] 2 rfl rfl (by omega) (by omega) Tryd.underlying92 (by kernel_rfl) (by kernel_rfl) ?_
    refine hK _ _ ⟨_, Only.refl _ _, Only.ofExt (Ext.alloc (Ext.refl _) _), ?_⟩
    refine only_gen (fun W => Hid (Ext W5 W) ∧ Hid (W.heap[W5.heap.size]? = some (.cells #[.int .i64 at_, .int .i64 (at_ + n)] 95 (0, 0)))) ⟨hid (Ext.alloc (Ext.refl _) _), hid (heap_alloc_new W5 _)⟩ ?_
    clear hK K
    rintro w6 ⟨hE6, hV6⟩
    have hq6 := hid (HQ5.out.ext hE6.out)
    have hc6 := hq6.out.2.1.2.2
    have hl6 := hq6.out.1
    have hS6 : Hid (Only (tch q v) W5 w6) := hid (Only.ofExt hE6.out)
    refine only_act (by rfl) (fun K hK => ?_)
    go_wp2_with fail
    refine ⟨_, Only.refl _ _, hS6.out, ?_⟩
    refine only_act (by rfl) (fun K hK => ?_)
    go_wp2_with (go_at_call 61; refine (eins_ w6 base ⟨at_, at_ + n⟩ W5.heap.size hV6.out _ l.length k l hq6.out.2.2.2.1 hkl (by omega) (by have := hq6.out.2.2.2.2.1; omega) (fun g hg => by have := (HQ5.out.2.2.2.1.lt g hg).2; omega)).mono ?_; rintro e w7 ⟨v7, rfl, HR7, HO7, hat7⟩; obtain ⟨A7, c7, rfl, _, _⟩ := HR7.out.shape)
    have hS7 : Hid (Only (tch q v) W5 w7) := hid (Only.trans' hS6.out (HO7.out.mono fun i e => .inr e))
    refine ⟨_, Only.refl _ _, hS7.out, ?_⟩
    have hnq : ¬ v.ownBlock = some q := fun e => hq6.out.2.2.2.2.2 q e rfl
    have hq7 : q < w7.heap.size := Nat.lt_of_lt_of_le hl6 HO7.out.size
    have d0 := (HO7.out.cells q 0 hl6 hnq).trans hq6.out.2.1.1
    have d1 := (HO7.out.cells q 1 hl6 hnq).trans hq6.out.2.1.2.1
    have d2 := (HO7.out.cells q 2 hl6 hnq).trans hc6
    have f0 := (HO7.out.frozens q 0 hl6 hnq).trans hq6.out.2.2.1.1
    have f1 := (HO7.out.frozens q 1 hl6 hnq).trans hq6.out.2.2.1.2.1
    have f2 := (HO7.out.frozens q 2 hl6 hnq).trans hq6.out.2.2.1.2.2
    have hne7 : ∀ g, (Value.slice A7 (l.length + 1) c7).ownBlock = some g → ¬ g = q := fun g hg e => by
      rcases hat7 g hg with e2 | e2
      · exact hq6.out.2.2.2.2.2 g e2 e
      · omega
    have hat8 : ∀ g, (Value.slice A7 (l.length + 1) c7).ownBlock = some g → v.ownBlock = some g ∨ W5.heap.size ≤ g := fun g hg => (hat7 g hg).imp_right fun h => Nat.le_trans hE6.out.size h
    clear hat7 hE6 hV6 hq6 hc6 hS6 HO7
    repeat' (first | (refine only_read (by rfl) (fun K hK => ?_); refine quiet_load1 61 _ rfl BF 0 rfl (.pointer (some ⟨q, 0, none⟩)) _ (fun w' hw' => (hw'.cells BF 0 hBF5 hSF).trans hF5) Tryd.underlying61 rfl ?_; refine hK _ ?_; clear hK K; simp only [Act.put, List.setIfInBounds_toArray, List.set_cons_zero, List.set_cons_succ]) | (refine only_read (by rfl) (fun K hK => ?_); refine quiet_load1 3 _ rfl BA 0 rfl (.int .i64 at_) _ (fun w' hw' => (hw'.cells BA 0 hBA5 hSA).trans hA5) Tryd.underlying3 rfl ?_; refine hK _ ?_; clear hK K; simp only [Act.put, List.setIfInBounds_toArray, List.set_cons_zero, List.set_cons_succ]) | (refine only_read (by rfl) (fun K hK => ?_); refine quiet_runD 75 rfl (.pointer (some ⟨q, 0, none⟩)) (fun w => by kernel_rfl) ?_; refine hK _ ?_; clear hK K; simp only [Act.put, List.setIfInBounds_toArray, List.set_cons_zero, List.set_cons_succ]) | (refine only_read (by rfl) (fun K hK => ?_); refine quiet_runD 76 rfl (.pointer (some ⟨q, 2, none⟩)) (fun w => by kernel_rfl) ?_; refine hK _ ?_; clear hK K; simp only [Act.put, List.setIfInBounds_toArray, List.set_cons_zero, List.set_cons_succ]) | (refine only_read (by rfl) (fun K hK => ?_); refine quiet_runD 84 rfl (.pointer (some ⟨q, 0, none⟩)) (fun w => by kernel_rfl) ?_; refine hK _ ?_; clear hK K; simp only [Act.put, List.setIfInBounds_toArray, List.set_cons_zero, List.set_cons_succ]) | (refine only_read (by rfl) (fun K hK => ?_); refine quiet_runD 85 rfl (.pointer (some ⟨q, 2, none⟩)) (fun w => by kernel_rfl) ?_; refine hK _ ?_; clear hK K; simp only [Act.put, List.setIfInBounds_toArray, List.set_cons_zero, List.set_cons_succ]) | (refine only_read (by rfl) (fun K hK => ?_); refine quiet_runD 81 rfl (.agg #[.int .i64 at_, .int .i64 (at_ + n)]) (fun w => by kernel_rfl) ?_; refine hK _ ?_; clear hK K; simp only [Act.put, List.setIfInBounds_toArray, List.set_cons_zero, List.set_cons_succ]) | (refine only_read (by rfl) (fun K hK => ?_); go_big_quiet_op; refine hK _ ?_; clear hK K))
    refine only_act (by rfl) (fun K hK => ?_)
    go_wp2_with fail
    refine ⟨_, Only.refl _ _, Only.setCell (S := tch q v) hS7.out (Or.inl (show tch q v q from Or.inl rfl)) _, ?_⟩
    refine only_nil ?_
    have hX8 : Only (tch q v) W5 (w7.setCell ⟨q, 2, none⟩ (Value.slice A7 (l.length + 1) c7)) := Only.setCell (S := tch q v) hS7.out (Or.inl (show tch q v q from Or.inl rfl)) _
    have hl8 : (l.take k ++ Pr.mk at_ (at_ + n) :: l.drop k).length = l.length + 1 := ins_len l _ k _ rfl hkl
    have hF8 : Fr (w7.setCell ⟨q, 2, none⟩ (Value.slice A7 (l.length + 1) c7)) q base fr to (Value.slice A7 (l.length + 1) c7) (l.take k ++ Pr.mk at_ (at_ + n) :: l.drop k) := by
      refine ⟨by simpa using hq7, ⟨by simp [go_sem, d0], by simp [go_sem, d1], by simp [go_sem, d2]⟩, ⟨by simp [go_sem, f0], by simp [go_sem, f1], by simp [go_sem, f2]⟩, ?_, HQ5.out.2.2.2.2.1, hne7⟩
      rw [hl8]
      exact HR7.out.only (Only.setCell (S := fun i => i = q) (Only.refl _ _) (.inl rfl) (Value.slice A7 (l.length + 1) c7)) hne7
    have HF8 := hid hF8
    have HX8 := hid hX8
    have hBF8 : BF < (w7.setCell ⟨q, 2, none⟩ (Value.slice A7 (l.length + 1) c7)).heap.size := Nat.lt_of_lt_of_le hBF5 hX8.size
    have hc8 : (w7.setCell ⟨q, 2, none⟩ (Value.slice A7 (l.length + 1) c7)).cell? ⟨BF, 0, none⟩ = some (.pointer (some ⟨q, 0, none⟩)) := (hX8.cells BF 0 hBF5 hSF).trans hF5
    generalize w7.setCell ⟨q, 2, none⟩ (Value.slice A7 (l.length + 1) c7) = W8 at HF8 HX8 hBF8 hc8 ⊢
    clear hF8 hX8 d0 d1 d2 f0 f1 f2 hS7 HR7
    obtain ⟨j, hj⟩ : ∃ j, j = k + 1 := ⟨_, rfl⟩
    have hji : (k : Int) + 1 = (j : Int) := by omega
    have HJ := hid hj
    clear hj
    have hB7 : ∀ g, (Value.slice A7 (l.length + 1) c7).ownBlock = some g → ¬ g = BF := fun g hg e => by
      rcases hat8 g hg with e2 | e2
      · have := HB.out g e2; omega
      · omega
    have hqB : ¬ q = BF := by omega
    have hl89 : (l.take k ++ Pr.mk at_ (at_ + n) :: l.drop k).length ≤ 100000000 := by omega
    go_upto_region 9 with (go_at_call 62; refine (join_ q base fr to (Value.slice A7 (l.length + 1) c7) _ _ HF8.out j hl89).mono ?_; rintro e w9 ⟨rfl, v9, HF9, HO9, hv9⟩)
    have hBF9 : BF < w9.heap.size := Nat.lt_of_lt_of_le hBF8 HO9.out.size
    have hS9 : ¬ tch q (Value.slice A7 (l.length + 1) c7) BF := by
      rintro (e | e)
      · exact hqB e.symm
      · exact hB7 _ e rfl
    have hc9 : w9.cell? ⟨BF, 0, none⟩ = some (.pointer (some ⟨q, 0, none⟩)) := (HO9.out.cells BF 0 hBF8 hS9).trans hc8
    have hl99 : (joinL (l.take k ++ Pr.mk at_ (at_ + n) :: l.drop k) j).length ≤ 100000000 := Nat.le_trans (joinL_len _ _) hl89
    clear hc8
    go_wp2_with (go_at_call 62; refine (join_ q base fr to v9 _ _ HF9.out k hl99).mono ?_; rintro e w10 ⟨rfl, v10, HF10, HO10, hv10⟩)
    go_ret
    rw [HV.out]
    have hfin : ∀ w', Only (tch q v) W5 w' → Only (tch q v) w w' := fun w' x => (Only.ofExt (S := tch q v) hxw5.out).trans x fun i e => .inl e
    refine ⟨v10, rfl, hid (by unfold giveL; rw [← HJ.out]; exact HF10.out), hid ?_, fun g hg => ?_⟩
    · refine hfin _ ((HX8.out.trans (T := tch q (Value.slice A7 (l.length + 1) c7)) HO9.out ?_).trans (T := tch q v9) HO10.out ?_)
      · rintro i (e | e)
        · exact .inl (.inl e)
        · exact (hat8 i e).imp_left .inr
      · rintro i (e | e)
        · exact .inl (.inl e)
        · exact (hat8 i (hv9 i e)).imp_left .inr
    · exact (hat8 g (hv9 g (hv10 g hg))).imp_right fun h => Nat.le_trans hxw5.out.size h
end Go.Proofs.YtoeiemeffiiidaaDoor

namespace Go.Proofs.YtoeiemeffiiidaaDoor
set_option maxRecDepth 100000
set_option linter.unusedSimpArgs false
set_option linter.unusedVariables false
open Go.RowKit

set_option maxRecDepth 100000
theorem info_int : (Tryd.prog.info? 3).map (fun i => (i.zero, i.size, i.bytes)) = some (some (.int .i64 0), 1, 8) := by kernel_rfl
theorem cells_int : Tryd.prog.cellsOf 3 = 1 := by kernel_rfl
theorem eqIn_two (x y : Int) (w : World) : (Op.equalIn 10000 95 (.agg #[.int .i64 x, .int .i64 y]) (.agg #[.int .i64 x, .int .i64 y])).run Tryd.prog w = .ok true w := by
  obtain ⟨i, hi, _⟩ := info_parts info_int
  rw [run_equalIn_array w 9999 _ _ Tryd.underlying95 hi, cells_int]
  simp [Op.eqItems, List.range_succ, part, run_equalIn_int, Tryd.underlying3, Result.andThen, cells_int]
attribute [go_sem] eqIn_two
theorem quiet_two {o : Oper} {a : Act} {w W : World} {K : Act → Prop} (x : Operand) (ho : o.op = .load 95 x) (b off : Nat) (hx : a.eval x = .pointer (some ⟨b, off, none⟩)) (u v : Int) (h0 : w.cell? ⟨b, off, none⟩ = some (.int .i64 u)) (h1 : w.cell? ⟨b, off + 1, none⟩ = some (.int .i64 v)) (hb : b < w.heap.size) (xx : Ext w W)
    (k : K (a.put o.dst (.agg #[.int .i64 u, .int .i64 v]))) : o.quiet Tryd.prog a (Grown W) K := by
  refine ⟨_, fun w' hw' => ?_, k⟩
  have y : Ext w w' := Ext.trans xx hw'.ext
  have hc' : w'.rangeAt b off [.int .i64 u, .int .i64 v] := fun j z hj => by
    have hj2 : j = 0 ∨ j = 1 := by
      have h := (List.getElem?_eq_some_iff.1 hj).1
      simp at h
      omega
    rcases hj2 with rfl | rfl
    · simp at hj
      subst hj
      exact (y.cells b _ hb).trans h0
    · simp at hj
      subst hj
      exact (y.cells b _ hb).trans h1
  unfold Oper.quietAt execOp
  rw [ho]
  simp only [hx, run_loadAt_mid w' b off 95 [.int .i64 u, .int .i64 v] _ hc' Tryd.underlying95 (by rfl) (by kernel_rfl), Sem.run_bind, Sem.run_map, Sem.run_pure, Result.andThen, Oper.quietUpon, and_self]
/-- What is free, beside all that was. -/
def EX (w0 W : World) (q base : Nat) (fr to : Int) (v : Value) (l : List Pr) : Prop := Fr W q base fr to v l ∧ Ext w0 W ∧ w0.heap.size ≤ base
theorem EX.ext {w0 W w' : World} {q base : Nat} {fr to : Int} {v : Value} {l : List Pr} (h : EX w0 W q base fr to v l) (x : Ext W w') : EX w0 w' q base fr to v l := ⟨h.1.ext x, h.2.1.trans x, h.2.2⟩
theorem EX.upd {w0 W w' : World} {q base : Nat} {fr to : Int} {v v' : Value} {l l' : List Pr} (h : EX w0 W q base fr to v l) (h' : Fr w' q base fr to v' l') (x : Only (tch q v) W w') : EX w0 w' q base fr to v' l' :=
  ⟨h', Ext.only h.2.1 x (by
    rintro i (rfl | e)
    · exact Nat.le_trans h.2.2 h.1.2.2.2.2.1
    · exact Nat.le_trans h.2.2 (h.1.2.2.2.1.lt i e).1), h.2.2⟩
theorem xAll (w0 : World) (q base : Nat) (fr to : Int) (v : Value) (l : List Pr) (W : World) (h : EX w0 W q base fr to v l) (ho : okF l) (hl : l.length ≤ 10000000) : Calls Tryd.prog 44 #[.pointer (some ⟨q, 0, none⟩)] W fun e w' => e = .returned (.int .i64 (sumP l)) ∧ Hid (EX w0 w' q base fr to v l) ∧ Hid (Ext W w') := by
  refine (eall_ q base fr to v l W h.1 hl ho).mono ?_
  rintro e w' ⟨rfl, hx⟩
  exact ⟨rfl, hid (h.ext hx), hid hx⟩
theorem xTakeNo (w0 : World) (q base : Nat) (fr to : Int) (v : Value) (l : List Pr) (W : World) (h : EX w0 W q base fr to v l) (ho : okF l) (hl : l.length ≤ 10000000) (n : Int) (hn : n < 1 ∨ g16 n = false ∨ l.findIdx? (fits n) = none) : Calls Tryd.prog 41 #[.pointer (some ⟨q, 0, none⟩), .int .i64 n] W fun e w' => e = .returned (.tuple #[.int .i64 0, .bool false]) ∧ Hid (EX w0 w' q base fr to v l) ∧ Hid (Ext W w') := by
  have : Calls Tryd.prog 41 #[.pointer (some ⟨q, 0, none⟩), .int .i64 n] W fun e w' => e = .returned (.tuple #[.int .i64 0, .bool false]) ∧ Ext W w' := by
    by_cases h1 : n < 1
    · exact take_no1 q base fr to v l W h.1 n h1
    · cases hg : g16 n with
      | false => exact take_no2 q base fr to v l W h.1 n (by omega) hg
      | true =>
        rcases hn with hn | hn | hn
        · exact absurd hn h1
        · rw [hg] at hn; cases hn
        · exact take_no3 q base fr to v l W h.1 hl ho n (by omega) hg hn
  refine this.mono ?_
  rintro e w' ⟨rfl, hx⟩
  exact ⟨rfl, hid (h.ext hx), hid hx⟩
theorem xTake (w0 : World) (q base : Nat) (fr to : Int) (v : Value) (l : List Pr) (W : World) (h : EX w0 W q base fr to v l) (ho : okF l) (hl : l.length ≤ 10000000) (n : Int) (hn : 1 ≤ n) (hg : g16 n = true) (k : Nat) (hk : k < l.length) (hf : l.findIdx? (fits n) = some k) (l' : List Pr) (hl' : takeK l k n hk = l') (x : Int) (hx : (l[k]).lo = x) : Calls Tryd.prog 41 #[.pointer (some ⟨q, 0, none⟩), .int .i64 n] W fun e w' => ∃ v', e = .returned (.tuple #[.int .i64 x, .bool true]) ∧ Hid (EX w0 w' q base fr to v' l') ∧ Hid (Only (tch q v) W w') := by
  subst hl' hx
  refine (take_yes q base fr to v l W h.1 hl ho n hn hg k hk hf).mono ?_
  rintro e w' ⟨v', rfl, hq, ho', _⟩
  exact ⟨v', rfl, hid (h.upd hq.out ho'.out), ho'⟩
theorem xGiveMeets (w0 : World) (q base : Nat) (fr to : Int) (v : Value) (l : List Pr) (W : World) (h : EX w0 W q base fr to v l) (at_ n : Int) (hg : [at_, n].all g16 = true) (hb0 : 0 ≤ fr) (hb1 : to ≤ 16777216) (h0 : 1 ≤ n) (h1 : fr ≤ at_) (h2 : at_ ≤ to) (h3 : n ≤ to - at_) (hl9 : l.length ≤ 10000000) (hmono : ∀ (a b : Nat) (hb : b < l.length) (hab : a ≤ b), at_ < (l[a]'(by omega)).hi → at_ < (l[b]).hi) (k : Nat) (hkl : k ≤ l.length) (hlow : ∀ (j : Nat) (hj : j < l.length), j < k → (l[j]).hi ≤ at_) (hhigh : ∀ hk : k < l.length, at_ < (l[k]).hi) (hk : k < l.length) (hov : (l[k]).lo < at_ + n) : Calls Tryd.prog 39 #[.pointer (some ⟨q, 0, none⟩), .int .i64 at_, .int .i64 n] W fun e w' => e = .returned (.bool false) ∧ Hid (EX w0 w' q base fr to v l) := by
  refine (give_n6 q base fr to v l W h.1 at_ n hg hb0 hb1 h0 h1 h2 h3 hl9 hmono k hkl hlow hhigh hk hov).mono ?_
  rintro e w' ⟨rfl, hx⟩
  exact ⟨rfl, hid (h.ext hx)⟩
theorem xGive (w0 : World) (q base : Nat) (fr to : Int) (v : Value) (l : List Pr) (W : World) (h : EX w0 W q base fr to v l) (at_ n : Int) (hg : [at_, n].all g16 = true) (hb0 : 0 ≤ fr) (hb1 : to ≤ 16777216) (h0 : 1 ≤ n) (h1 : fr ≤ at_) (h2 : at_ ≤ to) (h3 : n ≤ to - at_) (hl9 : l.length ≤ 10000000) (hmono : ∀ (a b : Nat) (hb : b < l.length) (hab : a ≤ b), at_ < (l[a]'(by omega)).hi → at_ < (l[b]).hi) (k : Nat) (hkl : k ≤ l.length) (hlow : ∀ (j : Nat) (hj : j < l.length), j < k → (l[j]).hi ≤ at_) (hhigh : ∀ hk : k < l.length, at_ < (l[k]).hi) (hge : ∀ hk : k < l.length, at_ + n ≤ (l[k]).lo) (l' : List Pr) (hl' : giveL l k ⟨at_, at_ + n⟩ = l') : Calls Tryd.prog 39 #[.pointer (some ⟨q, 0, none⟩), .int .i64 at_, .int .i64 n] W fun e w' => ∃ v', e = .returned (.bool true) ∧ Hid (EX w0 w' q base fr to v' l') ∧ Hid (Only (tch q v) W w') := by
  subst hl'
  have : Calls Tryd.prog 39 #[.pointer (some ⟨q, 0, none⟩), .int .i64 at_, .int .i64 n] W fun e w' => ∃ v', e = .returned (.bool true) ∧ Hid (Fr w' q base fr to v' (giveL l k ⟨at_, at_ + n⟩)) ∧ Hid (Only (tch q v) W w') ∧ (∀ g, v'.ownBlock = some g → v.ownBlock = some g ∨ W.heap.size ≤ g) := by
    by_cases hk : k < l.length
    · exact give_yes1 q base fr to v l W h.1 at_ n hg hb0 hb1 h0 h1 h2 h3 hl9 hmono k hkl hlow hhigh hk (hge hk)
    · exact give_yes0 q base fr to v l W h.1 at_ n hg hb0 hb1 h0 h1 h2 h3 hl9 hmono k hkl hlow hhigh (hid (by omega))
  refine this.mono ?_
  rintro e w' ⟨v', rfl, hq, ho', _⟩
  exact ⟨v', rfl, hid (h.upd hq.out ho'.out), ho'⟩
end Go.Proofs.YtoeiemeffiiidaaDoor

namespace Go.Proofs.YtoeiemeffiiidaaDoor
set_option maxRecDepth 100000
set_option linter.unusedSimpArgs false
set_option linter.unusedVariables false
open Go.RowKit

theorem okF.nil : okF [] := fun x h => by cases h
theorem okF.cons {p : Pr} {l : List Pr} (hp : 0 ≤ p.lo ∧ p.lo ≤ p.hi ∧ p.hi ≤ 16777216) (h : okF l) : okF (p :: l) := fun x hx => by
  rcases List.mem_cons.1 hx with rfl | hx
  · exact hp
  · exact h x hx
/-- Their ends rise. -/
theorem rise_mono {l : List Pr} (h : l.Pairwise (fun x y => x.hi ≤ y.hi)) (at_ : Int) : ∀ (a b : Nat) (hb : b < l.length) (hab : a ≤ b), at_ < (l[a]'(by omega)).hi → at_ < (l[b]).hi := fun a b hb hab ha => by
  rcases Nat.lt_or_ge a b with h1 | h1
  · have := (List.pairwise_iff_getElem.1 h) a b (by omega) hb h1
    omega
  · obtain rfl : a = b := by omega
    exact ha
theorem RdP.new1 (w : World) (p : Pr) (T : TypeId) : RdP (w.alloc (.cells #[.int .i64 p.lo, .int .i64 p.hi] T)) (some ⟨w.heap.size, 0, none⟩) [p] := fun _ =>
  ⟨w.heap.size, 0, rfl, by simp, fun j u hj => (Row.new w #[.int .i64 p.lo, .int .i64 p.hi] T).at_ j u (by rw [prList_one] at hj; exact hj)⟩
theorem RdP.new2 (w : World) (p r : Pr) (T : TypeId) : RdP (w.alloc (.cells #[.int .i64 p.lo, .int .i64 p.hi, .int .i64 r.lo, .int .i64 r.hi] T)) (some ⟨w.heap.size, 0, none⟩) [p, r] := fun _ =>
  ⟨w.heap.size, 0, rfl, by simp, fun j u hj => (Row.new w #[.int .i64 p.lo, .int .i64 p.hi, .int .i64 r.lo, .int .i64 r.hi] T).at_ j u (by rw [prList_cons, prList_one] at hj; exact hj)⟩
end Go.Proofs.YtoeiemeffiiidaaDoor

namespace Go.Proofs.YtoeiemeffiiidaaDoor
set_option maxRecDepth 100000
set_option linter.unusedSimpArgs false
set_option linter.unusedVariables false
open Go.RowKit

/-- Runs that rise, none of which is beside another one, between two numbers. -/
def Good (fr to : Int) (l : List Pr) : Prop := l.Pairwise (fun x y => x.hi < y.lo) ∧ ∀ x ∈ l, fr ≤ x.lo ∧ x.lo < x.hi ∧ x.hi ≤ to
theorem Good.nil (fr to : Int) : Good fr to [] := ⟨List.Pairwise.nil, fun x h => by cases h⟩
theorem Good.one {fr to : Int} (h : fr < to) : Good fr to [Pr.mk fr to] := ⟨List.pairwise_singleton _ _, fun x hx => by
  obtain rfl : x = Pr.mk fr to := by simpa using hx
  exact ⟨Int.le_refl _, h, Int.le_refl _⟩⟩
theorem Good.okF {fr to : Int} {l : List Pr} (h : Good fr to l) (h0 : 0 ≤ fr) (h1 : to ≤ 16777216) : okF l := fun x hx => by have := h.2 x hx; omega
theorem Good.rise {fr to : Int} {l : List Pr} (h : Good fr to l) : l.Pairwise (fun x y => x.hi ≤ y.hi) := by
  have h1 : l.Pairwise (fun x y => x.hi < y.lo ∧ y.lo < y.hi) := h.1.imp_of_mem fun {a b} ha hb hab => ⟨hab, (h.2 b hb).2.1⟩
  exact h1.imp fun {a b} hab => by omega
theorem Good.mono {fr to : Int} {l : List Pr} (h : Good fr to l) (at_ : Int) : ∀ (a b : Nat) (hb : b < l.length) (hab : a ≤ b), at_ < (l[a]'(by omega)).hi → at_ < (l[b]).hi := rise_mono h.rise at_
theorem Good.sub {fr to : Int} {l m : List Pr} (h : Good fr to l) (hs : m.Sublist l) : Good fr to m := ⟨h.1.sublist hs, fun x hx => h.2 x (hs.subset hx)⟩
theorem good_append {fr to : Int} {A B : List Pr} : Good fr to (A ++ B) ↔ Good fr to A ∧ Good fr to B ∧ ∀ x ∈ A, ∀ y ∈ B, x.hi < y.lo := by
  unfold Good
  rw [List.pairwise_append]
  constructor
  · rintro ⟨⟨h1, h2, h3⟩, h4⟩
    exact ⟨⟨h1, fun x hx => h4 x (List.mem_append_left _ hx)⟩, ⟨h2, fun x hx => h4 x (List.mem_append_right _ hx)⟩, h3⟩
  · rintro ⟨⟨h1, h4⟩, ⟨h2, h5⟩, h3⟩
    exact ⟨⟨h1, h2, h3⟩, fun x hx => (List.mem_append.1 hx).elim (h4 x) (h5 x)⟩
theorem good_cons {fr to : Int} {p : Pr} {B : List Pr} : Good fr to (p :: B) ↔ (fr ≤ p.lo ∧ p.lo < p.hi ∧ p.hi ≤ to) ∧ Good fr to B ∧ ∀ y ∈ B, p.hi < y.lo := by
  unfold Good
  rw [List.pairwise_cons]
  constructor
  · rintro ⟨⟨h1, h2⟩, h4⟩
    exact ⟨h4 p List.mem_cons_self, ⟨h2, fun x hx => h4 x (List.mem_cons_of_mem _ hx)⟩, h1⟩
  · rintro ⟨h1, ⟨h2, h3⟩, h4⟩
    refine ⟨⟨h4, h2⟩, fun x hx => ?_⟩
    rcases List.mem_cons.1 hx with rfl | hx
    · exact h1
    · exact h3 x hx
theorem Good.take {fr to : Int} {l : List Pr} (h : Good fr to l) (k : Nat) (n : Int) (hk : k < l.length) (h1 : 1 ≤ n) (hf : fits n l[k] = true) : Good fr to (takeK l k n hk) := by
  have hn : n ≤ (l[k]).len := of_decide_eq_true hf
  unfold takeK
  split
  · exact h.sub (List.eraseIdx_sublist _ _)
  · rename_i hne
    have hs : l = l.take k ++ l[k] :: l.drop (k + 1) := by rw [← List.drop_eq_getElem_cons hk, List.take_append_drop]
    have hset : l.set k ⟨(l[k]).lo + n, (l[k]).hi⟩ = l.take k ++ ⟨(l[k]).lo + n, (l[k]).hi⟩ :: l.drop (k + 1) := List.set_eq_take_append_cons_drop.trans (by rw [if_pos hk])
    rw [hset]
    have hl : (l[k]).len = (l[k]).hi - (l[k]).lo := rfl
    have hg := h
    rw [hs] at hg
    generalize l[k] = p at *
    obtain ⟨g1, g2, g3⟩ := good_append.1 hg
    obtain ⟨g4, g5, g6⟩ := good_cons.1 g2
    refine good_append.2 ⟨g1, good_cons.2 ⟨⟨by show fr ≤ p.lo + n; omega, by show p.lo + n < p.hi; omega, g4.2.2⟩, g5, g6⟩, fun x hx y hy => ?_⟩
    rcases List.mem_cons.1 hy with rfl | hy
    · have := g3 x hx p List.mem_cons_self
      show x.hi < p.lo + n
      omega
    · exact g3 x hx y (List.mem_cons_of_mem _ hy)
theorem joinL_end (A : List Pr) (i : Nat) (h : A.length ≤ i) : joinL A i = A := by unfold joinL; rw [dif_neg (by omega)]
theorem joinL_zero (A : List Pr) : joinL A 0 = A := by unfold joinL; rw [dif_neg (by omega)]
theorem joinL_mid (A B : List Pr) (p y : Pr) : joinL (A ++ p :: y :: B) (A.length + 1) = if p.hi = y.lo then A ++ ⟨p.lo, y.hi⟩ :: B else A ++ p :: y :: B := by
  have hl : (A ++ p :: y :: B).length = A.length + (B.length + 2) := by simp
  unfold joinL
  rw [dif_pos ⟨by omega, by omega⟩]
  have e1 : (A ++ p :: y :: B)[A.length + 1 - 1]'(by omega) = p := by
    rw [List.getElem_append_right (by omega)]
    simp
  have e2 : (A ++ p :: y :: B)[A.length + 1]'(by omega) = y := by
    rw [List.getElem_append_right (by omega)]
    simp
  rw [e1, e2]
  by_cases h : p.hi = y.lo
  · rw [if_pos h, if_pos h, List.set_append_right _ _ (by omega), List.eraseIdx_append_of_length_le (by omega)]
    simp
  · rw [if_neg h, if_neg h]
/-- What is free behind: the first half of it. -/
def rightL (A : List Pr) (p : Pr) : List Pr → List Pr
  | [] => A ++ [p]
  | y :: B' => if p.hi = y.lo then A ++ ⟨p.lo, y.hi⟩ :: B' else A ++ p :: y :: B'
theorem giveL_right (A B : List Pr) (p : Pr) : joinL (A ++ p :: B) (A.length + 1) = rightL A p B := by
  cases B with
  | nil => exact joinL_end _ _ (by simp)
  | cons y B' => exact joinL_mid A B' p y
theorem Good.give {fr to : Int} {l : List Pr} (h : Good fr to l) (k : Nat) (p : Pr) (hk : k ≤ l.length) (hp : fr ≤ p.lo ∧ p.lo < p.hi ∧ p.hi ≤ to) (hlow : ∀ (j : Nat) (hj : j < l.length), j < k → (l[j]).hi ≤ p.lo) (hge : ∀ hk : k < l.length, p.hi ≤ (l[k]).lo) : Good fr to (giveL l k p) := by
  obtain ⟨A, B, rfl, rfl⟩ : ∃ A B, l = A ++ B ∧ k = A.length := ⟨l.take k, l.drop k, (List.take_append_drop k l).symm, by rw [List.length_take]; omega⟩
  have hA : ∀ x ∈ A, x.hi ≤ p.lo := fun x hx => by
    obtain ⟨j, hj, rfl⟩ := List.mem_iff_getElem.1 hx
    have := hlow j (by rw [List.length_append]; omega) hj
    rwa [List.getElem_append_left hj] at this
  obtain ⟨g1, g2, g3⟩ := good_append.1 h
  unfold giveL
  rw [List.take_left' rfl, List.drop_left' rfl, giveL_right]
  -- the right half
  obtain ⟨p', B', hB, h1, h2, h3, h4⟩ : ∃ p' B', rightL A p B = A ++ p' :: B' ∧ p'.lo = p.lo ∧ (fr ≤ p'.lo ∧ p'.lo < p'.hi ∧ p'.hi ≤ to) ∧ (Good fr to B' ∧ ∀ y ∈ B', p'.hi < y.lo) ∧ ∀ x ∈ A, ∀ y ∈ B', x.hi < y.lo := by
    cases B with
    | nil => exact ⟨p, [], rfl, rfl, hp, ⟨Good.nil _ _, fun y hy => by cases hy⟩, fun x _ y hy => by cases hy⟩
    | cons y B' =>
      obtain ⟨c1, c2, c3⟩ := good_cons.1 g2
      have hy : p.hi ≤ y.lo := by
        have := hge (by simp)
        simpa using this
      by_cases e : p.hi = y.lo
      · exact ⟨⟨p.lo, y.hi⟩, B', by simp [rightL, e], rfl, ⟨hp.1, by show p.lo < y.hi; omega, c1.2.2⟩, ⟨c2, c3⟩, fun x hx z hz => g3 x hx z (List.mem_cons_of_mem _ hz)⟩
      · exact ⟨p, y :: B', by simp [rightL, e], rfl, hp, ⟨g2, fun z hz => by
          rcases List.mem_cons.1 hz with rfl | hz
          · omega
          · have := c3 z hz; omega⟩, g3⟩
  rw [hB]
  clear hB
  rcases List.eq_nil_or_concat A with rfl | ⟨A', x, rfl⟩
  · rw [show ([] : List Pr).length = 0 from rfl, joinL_zero]
    exact good_append.2 ⟨g1, good_cons.2 ⟨h2, h3⟩, fun x hx => by cases hx⟩
  · rw [List.concat_eq_append] at g1 hA h4 ⊢
    obtain ⟨a1, a2, a3⟩ := good_append.1 g1
    have hx := (good_cons.1 a2).1
    have hxp := hA x (by simp)
    rw [List.append_assoc, List.singleton_append, List.length_append, show [x].length = 1 from rfl, joinL_mid]
    by_cases e : x.hi = p'.lo
    · rw [if_pos e]
      refine good_append.2 ⟨a1, good_cons.2 ⟨⟨hx.1, by show x.lo < p'.hi; omega, h2.2.2⟩, h3⟩, fun z hz u hu => ?_⟩
      rcases List.mem_cons.1 hu with rfl | hu
      · exact a3 z hz x List.mem_cons_self
      · exact h4 z (List.mem_append_left _ hz) u hu
    · rw [if_neg e]
      refine good_append.2 ⟨a1, good_cons.2 ⟨hx, good_cons.2 ⟨h2, h3⟩, fun u hu => ?_⟩, fun z hz u hu => ?_⟩
      · rcases List.mem_cons.1 hu with rfl | hu
        · omega
        · exact h4 x (by simp) u hu
      · rcases List.mem_cons.1 hu with rfl | hu
        · exact a3 z hz u List.mem_cons_self
        · rcases List.mem_cons.1 hu with rfl | hu
          · have := a3 z hz x List.mem_cons_self; omega
          · exact h4 z (List.mem_append_left _ hz) u hu
end Go.Proofs.YtoeiemeffiiidaaDoor

namespace Go.Proofs.YtoeiemeffiiidaaDoor
set_option maxRecDepth 100000
set_option linter.unusedSimpArgs false
set_option linter.unusedVariables false
open Go.RowKit

theorem good_from {fr x to : Int} {l : List Pr} (h : Good fr to l) (hx : ∀ y ∈ l, x ≤ y.lo) : Good x to l := ⟨h.1, fun y hy => ⟨hx y hy, (h.2 y hy).2⟩⟩
theorem good_len {to : Int} : ∀ (l : List Pr) (fr : Int), Good fr to l → l = [] ∨ 2 * (l.length : Int) ≤ to - fr + 1
  | [], _, _ => .inl rfl
  | p :: B, fr, h => by
    obtain ⟨h1, h2, h3⟩ := good_cons.1 h
    rcases good_len B (p.hi + 1) (good_from h2 fun y hy => by have := h3 y hy; omega) with rfl | h4
    · right; simp; omega
    · right; rw [List.length_cons]; omega
theorem Good.len {fr to : Int} {l : List Pr} (h : Good fr to l) (h0 : 0 ≤ fr) (h1 : to ≤ 16777216) : l.length ≤ 10000000 := by
  rcases good_len l fr h with rfl | h
  · simp
  · omega
theorem exists_k (l : List Pr) (x : Int) : ∃ k, k ≤ l.length ∧ (∀ (j : Nat) (hj : j < l.length), j < k → (l[j]).hi ≤ x) ∧ (∀ hk : k < l.length, x < (l[k]).hi) := by
  cases h : l.findIdx? (fun p => decide (x < p.hi)) with
  | none =>
    refine ⟨l.length, Nat.le_refl _, fun j hj _ => ?_, fun hk => absurd hk (Nat.lt_irrefl _)⟩
    have := List.findIdx?_eq_none_iff.1 h _ (List.getElem_mem hj)
    simpa using this
  | some k =>
    obtain ⟨hk, h1, h2⟩ := List.findIdx?_eq_some_iff_getElem.1 h
    refine ⟨k, Nat.le_of_lt hk, fun j hj hjk => ?_, fun _ => by simpa using h1⟩
    simpa using h2 j hjk
/-- The bundle, with what holds of the runs. -/
def EG (w0 W : World) (q base : Nat) (fr to : Int) (v : Value) (l : List Pr) : Prop := EX w0 W q base fr to v l ∧ Good fr to l ∧ 0 ≤ fr ∧ to ≤ 16777216
theorem gTake (w0 : World) (q base : Nat) (fr to : Int) (v : Value) (l : List Pr) (W : World) (h : EG w0 W q base fr to v l) (n : Int) : Calls Tryd.prog 41 #[.pointer (some ⟨q, 0, none⟩), .int .i64 n] W fun e w' => ∃ x b v' l', e = .returned (.tuple #[.int .i64 x, .bool b]) ∧ Hid (EG w0 w' q base fr to v' l') ∧ Hid (Only (tch q v) W w') ∧ Hid ((b = false ∧ x = 0 ∧ l' = l ∧ (n < 1 ∨ g16 n = false ∨ l.findIdx? (fits n) = none)) ∨ ∃ (k : Nat) (hk : k < l.length), b = true ∧ x = (l[k]).lo ∧ 1 ≤ n ∧ g16 n = true ∧ l.findIdx? (fits n) = some k ∧ l' = takeK l k n hk) := by
  obtain ⟨hE, hG, h0, h1⟩ := h
  have no : (n < 1 ∨ g16 n = false ∨ l.findIdx? (fits n) = none) → Calls Tryd.prog 41 #[.pointer (some ⟨q, 0, none⟩), .int .i64 n] W fun e w' => ∃ x b v' l', e = .returned (.tuple #[.int .i64 x, .bool b]) ∧ Hid (EG w0 w' q base fr to v' l') ∧ Hid (Only (tch q v) W w') ∧ Hid ((b = false ∧ x = 0 ∧ l' = l ∧ (n < 1 ∨ g16 n = false ∨ l.findIdx? (fits n) = none)) ∨ ∃ (k : Nat) (hk : k < l.length), b = true ∧ x = (l[k]).lo ∧ 1 ≤ n ∧ g16 n = true ∧ l.findIdx? (fits n) = some k ∧ l' = takeK l k n hk) := fun hn => by
    refine (xTakeNo w0 q base fr to v l W hE (hG.okF h0 h1) (hG.len h0 h1) n hn).mono ?_
    rintro e w' ⟨rfl, hE', hX⟩
    exact ⟨0, false, v, l, rfl, hid ⟨hE'.out, hG, h0, h1⟩, hid (Only.ofExt hX.out), hid (.inl ⟨rfl, rfl, rfl, hn⟩)⟩
  by_cases hn : n < 1
  · exact no (.inl hn)
  · by_cases hg : g16 n = true
    · rcases Option.eq_none_or_eq_some (l.findIdx? (fits n)) with hf | ⟨k, hf⟩
      · exact no (.inr (.inr hf))
      · obtain ⟨hk, hfk, _⟩ := List.findIdx?_eq_some_iff_getElem.1 hf
        refine (xTake w0 q base fr to v l W hE (hG.okF h0 h1) (hG.len h0 h1) n (by omega) hg k hk hf _ rfl _ rfl).mono ?_
        rintro e w' ⟨v', rfl, hE', hO⟩
        exact ⟨_, true, v', _, rfl, hid ⟨hE'.out, hG.take k n hk (by omega) hfk, h0, h1⟩, hO, hid (.inr ⟨k, hk, rfl, rfl, by omega, hg, hf, rfl⟩)⟩
    · exact no (.inr (.inl (Bool.eq_false_iff.2 hg)))
theorem gGive (w0 : World) (q base : Nat) (fr to : Int) (v : Value) (l : List Pr) (W : World) (h : EG w0 W q base fr to v l) (at_ n : Int) (k : Nat) (hkl : k ≤ l.length) (hlow : ∀ (j : Nat) (hj : j < l.length), j < k → (l[j]).hi ≤ at_) (hhigh : ∀ hk : k < l.length, at_ < (l[k]).hi) : Calls Tryd.prog 39 #[.pointer (some ⟨q, 0, none⟩), .int .i64 at_, .int .i64 n] W fun e w' => ∃ b v' l', e = .returned (.bool b) ∧ Hid (EG w0 w' q base fr to v' l') ∧ Hid (Only (tch q v) W w') ∧ Hid ((b = false ∧ l' = l ∧ ¬ ([at_, n].all g16 = true ∧ 1 ≤ n ∧ fr ≤ at_ ∧ at_ ≤ to ∧ n ≤ to - at_ ∧ ∀ hk : k < l.length, at_ + n ≤ (l[k]).lo)) ∨ (b = true ∧ l' = giveL l k ⟨at_, at_ + n⟩ ∧ ([at_, n].all g16 = true ∧ 1 ≤ n ∧ fr ≤ at_ ∧ at_ ≤ to ∧ n ≤ to - at_ ∧ ∀ hk : k < l.length, at_ + n ≤ (l[k]).lo))) := by
  obtain ⟨hE, hG, h0, h1⟩ := h
  have no : ∀ {Wn : ¬ ([at_, n].all g16 = true ∧ 1 ≤ n ∧ fr ≤ at_ ∧ at_ ≤ to ∧ n ≤ to - at_ ∧ ∀ hk : k < l.length, at_ + n ≤ (l[k]).lo)}, (Calls Tryd.prog 39 #[.pointer (some ⟨q, 0, none⟩), .int .i64 at_, .int .i64 n] W fun e w' => e = .returned (.bool false) ∧ Ext W w') → Calls Tryd.prog 39 #[.pointer (some ⟨q, 0, none⟩), .int .i64 at_, .int .i64 n] W fun e w' => ∃ b v' l', e = .returned (.bool b) ∧ Hid (EG w0 w' q base fr to v' l') ∧ Hid (Only (tch q v) W w') ∧ Hid ((b = false ∧ l' = l ∧ ¬ ([at_, n].all g16 = true ∧ 1 ≤ n ∧ fr ≤ at_ ∧ at_ ≤ to ∧ n ≤ to - at_ ∧ ∀ hk : k < l.length, at_ + n ≤ (l[k]).lo)) ∨ (b = true ∧ l' = giveL l k ⟨at_, at_ + n⟩ ∧ ([at_, n].all g16 = true ∧ 1 ≤ n ∧ fr ≤ at_ ∧ at_ ≤ to ∧ n ≤ to - at_ ∧ ∀ hk : k < l.length, at_ + n ≤ (l[k]).lo))) := fun {Wn} hc => hc.mono (by
    rintro e w' ⟨rfl, hx⟩
    exact ⟨false, v, l, rfl, hid ⟨hE.ext hx, hG, h0, h1⟩, hid (Only.ofExt hx), hid (.inl ⟨rfl, rfl, Wn⟩)⟩)
  by_cases hg : [at_, n].all g16 = true
  · skip
    by_cases k0 : n < 1
    · exact no (Wn := fun c => by omega) (give_n2 q base fr to v l W hE.1 at_ n hg k0)
    by_cases k1 : at_ < fr
    · exact no (Wn := fun c => by omega) (give_n3 q base fr to v l W hE.1 at_ n hg (by omega) k1)
    by_cases k2 : to < at_
    · exact no (Wn := fun c => by omega) (give_n4 q base fr to v l W hE.1 at_ n hg (by omega) (by omega) k2)
    by_cases k3 : to - at_ < n
    · exact no (Wn := fun c => by omega) (give_n5 q base fr to v l W hE.1 at_ n hg h0 h1 (by omega) (by omega) (by omega) k3)
    have c1 : 1 ≤ n := by omega
    have c2 : fr ≤ at_ := by omega
    have c3 : at_ ≤ to := by omega
    have c4 : n ≤ to - at_ := by omega
    have c5 : fr ≤ at_ ∧ at_ < at_ + n ∧ at_ + n ≤ to := by omega
    by_cases hge : ∀ hk : k < l.length, at_ + n ≤ (l[k]).lo
    · have hGG : Good fr to (giveL l k ⟨at_, at_ + n⟩) := hG.give k ⟨at_, at_ + n⟩ hkl c5 hlow hge
      have hcc : ([at_, n].all g16 = true ∧ 1 ≤ n ∧ fr ≤ at_ ∧ at_ ≤ to ∧ n ≤ to - at_ ∧ ∀ hk : k < l.length, at_ + n ≤ (l[k]).lo) := ⟨hg, c1, c2, c3, c4, hge⟩
      refine (xGive w0 q base fr to v l W hE at_ n hg h0 h1 c1 c2 c3 c4 (hG.len h0 h1) (hG.mono at_) k hkl hlow hhigh hge _ rfl).mono ?_
      rintro e w' ⟨v', rfl, hE', hO⟩
      exact ⟨true, v', _, rfl, hid ⟨hE'.out, hGG, h0, h1⟩, hO, hid (.inr ⟨rfl, rfl, hcc⟩)⟩
    · obtain ⟨hk, hov⟩ := Classical.not_forall.1 hge
      exact no (Wn := fun c => hge c.2.2.2.2.2) (give_n6 q base fr to v l W hE.1 at_ n hg h0 h1 c1 c2 c3 c4 (hG.len h0 h1) (hG.mono at_) k hkl hlow hhigh hk (Int.not_le.1 hov))
  · exact no (Wn := fun c => hg c.1) (give_n1 q base fr to v l W hE.1 at_ n (Bool.eq_false_iff.2 hg))
theorem EG.nw {w0 W w' : World} {q base : Nat} {fr to : Int} {v : Value} {l : List Pr} (h : EG w0 W q base fr to v l) (x : Only (tch q v) W w') : Only (fun i => w0.heap.size ≤ i) W w' := x.mono (by
  rintro i (rfl | e)
  · exact Nat.le_trans h.1.2.2 h.1.1.2.2.2.2.1
  · exact Nat.le_trans h.1.2.2 (h.1.1.2.2.2.1.lt i e).1)
theorem EG.ext {w0 W w' : World} {q base : Nat} {fr to : Int} {v : Value} {l : List Pr} (h : EG w0 W q base fr to v l) (x : Ext W w') : EG w0 w' q base fr to v l := ⟨h.1.ext x, h.2⟩
theorem g16_mul (n : Int) : g16 (16 * n) = true := by unfold g16; rw [Int.mul_tmod_right]; rfl
theorem xNew (n : Int) (w : World) (h0 : 0 ≤ n) (h1 : n ≤ 1048576) : Calls Tryd.prog 28 #[.int .i64 0, .int .i64 (16 * n)] w fun e w' => ∃ q v l, e = .returned (.pointer (some ⟨q, 0, none⟩)) ∧ Hid (EG w w' q w.heap.size 0 (16 * n) v l) := by
  have hg : [(0 : Int), 16 * n].all g16 = true := by simp [g16_mul]; decide
  by_cases hn : n = 0
  · subst hn
    refine (enew0_ 0 (16 * 0) w hg (by decide) (by decide) (by decide)).mono ?_
    rintro e w' ⟨q, rfl, _, hx, hF⟩
    exact ⟨q, _, [], rfl, hid ⟨⟨hF, hx, Nat.le_refl _⟩, Good.nil _ _, by decide, by decide⟩⟩
  · refine (enew_ 0 (16 * n) w hg (by decide) (by omega) (by omega)).mono ?_
    rintro e w' ⟨q, v, rfl, _, hx, hF⟩
    exact ⟨q, v, _, rfl, hid ⟨⟨hF, hx, Nat.le_refl _⟩, Good.one (by omega), by decide, by omega⟩⟩
theorem quiet_index {P : Program} {o : Oper} {a : Act} {C : World → Prop} {K : Act → Prop} (t : TypeId) (x i : Operand) (ho : o.op = .indexAddr t x i) (ad : Addr) (len cap k s : Nat) (hx : a.eval x = .slice (some ad) len cap) (hi : a.eval i = .int .i64 k) (hk : k < len)
    (hu : P.underlying t = some (.slice (P.elem t))) (hs : ∀ w, (sizeOf (P.elem t)).run P w = .ok s w) (k1 : K (a.put o.dst (.pointer (some (ad.add (k * s)))))) : o.quiet P a C K :=
  quiet_run _ (fun w => by
    unfold execOp
    rw [ho]
    simp only [hx, hi, Sem.run_map, Sem.run_bind, Sem.run_pure, Go.run_indexAt_slice w t ad len cap .i64 k hu, if_pos (show (0 : Int) ≤ (k : Int) ∧ (k : Int) < (len : Int) by omega), hs, Result.andThen, Int.toNat_natCast]) k1
end Go.Proofs.YtoeiemeffiiidaaDoor
