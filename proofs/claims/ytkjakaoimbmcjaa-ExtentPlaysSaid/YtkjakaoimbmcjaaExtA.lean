/- Layer 12: runs. -/
import Derived.Test.YtkjakaoimbmcjaaOwnAt
import Derived.Test.YtkjakaoimbmcjaaStepO
import Derived.Test.YtkjakaoimbmcjaaStep
import Derived.Test.YtkjakaoimbmcjaaProg
namespace Go.Proofs.Ytkjakaoimbmcjaa
set_option linter.unusedSimpArgs false
set_option linter.unusedVariables false
open Go.RowKit

/-- From where up to where. -/
structure Pr where
  lo : Int
  hi : Int
instance : Inhabited Pr := ⟨⟨0, 0⟩⟩
def Pr.cells (p : Pr) : List Value := [.int .i64 p.lo, .int .i64 p.hi]
def prList (l : List Pr) : List Value := l.flatMap Pr.cells
theorem prList_cons (p : Pr) (l : List Pr) : prList (p :: l) = p.cells ++ prList l := by simp [prList]
theorem prList_length (l : List Pr) : (prList l).length = l.length * 2 := by
  induction l with
  | nil => rfl
  | cons h l ih => rw [prList_cons, List.length_append, ih, List.length_cons]; simp [Pr.cells]; omega
theorem prList_append (l m : List Pr) : prList (l ++ m) = prList l ++ prList m := by simp [prList]
theorem prList_one (p : Pr) : prList [p] = p.cells := by simp [prList]
theorem prList_drop (l : List Pr) (k : Nat) : (prList l).drop (k * 2) = prList (l.drop k) := by
  induction l generalizing k with
  | nil => simp [prList]
  | cons h l ih =>
    cases k with
    | zero => simp
    | succ k =>
      rw [List.drop_succ_cons, ← ih k, prList_cons, show (k + 1) * 2 = h.cells.length + k * 2 by simp [Pr.cells]; omega, List.drop_length_add_append]
theorem prList_take (l : List Pr) (k : Nat) : (prList l).take (k * 2) = prList (l.take k) := by
  induction l generalizing k with
  | nil => simp [prList]
  | cons h l ih =>
    cases k with
    | zero => simp [prList]
    | succ k =>
      rw [List.take_succ_cons, prList_cons, prList_cons, ← ih k, show (k + 1) * 2 = h.cells.length + k * 2 by simp [Pr.cells]; omega, List.take_length_add_append]
theorem prList_at (l : List Pr) (i j : Nat) (hi : i < l.length) (hj : j < 2) : (prList l)[i * 2 + j]? = (l[i]).cells[j]? := by
  induction l generalizing i with
  | nil => simp at hi
  | cons h l ih =>
    rw [prList_cons]
    cases i with
    | zero => rw [Nat.zero_mul, Nat.zero_add, List.getElem?_append_left (by simpa [Pr.cells] using hj)]; rfl
    | succ i =>
      rw [List.getElem?_append_right (by simp [Pr.cells]; omega), show (i + 1) * 2 + j - h.cells.length = i * 2 + j by simp [Pr.cells]; omega, ih i (by simpa using hi)]
      rfl
theorem pr_one (p : Pr) : ∀ u ∈ p.cells, u.oneCell' = true := by
  intro u hu
  simp only [Pr.cells, List.mem_cons, List.not_mem_nil, or_false] at hu
  rcases hu with rfl | rfl <;> rfl
theorem prs_one (l : List Pr) : ∀ u ∈ prList l, u.oneCell' = true := by
  intro u hu
  obtain ⟨p, _, hp⟩ := List.mem_flatMap.1 hu
  exact pr_one p u hp
/-- A slice of runs, to be read. -/
def RdP (w : World) (A : Option Addr) (l : List Pr) : Prop := 0 < l.length → ∃ b o, A = some ⟨b, o, none⟩ ∧ b < w.heap.size ∧ ∀ j u, (prList l)[j]? = some u → w.cell? ⟨b, o + j, none⟩ = some u
theorem RdP.only {S : Nat → Prop} {w w' : World} {A : Option Addr} {l : List Pr} (h : RdP w A l) (x : Only S w w') (hn : ∀ b o, A = some ⟨b, o, none⟩ → ¬ S b) : RdP w' A l := fun h0 => by
  obtain ⟨b, o, e, hb, hc⟩ := h h0
  exact ⟨b, o, e, Nat.lt_of_lt_of_le hb x.size, fun j u hj => (x.cells b _ hb (hn b o e)).trans (hc j u hj)⟩
theorem RdP.ext {w w' : World} {A : Option Addr} {l : List Pr} (h : RdP w A l) (x : Ext w w') : RdP w' A l := h.only (Only.ofExt (S := fun _ => False) x) (fun _ _ _ => id)
theorem RdP.two {w : World} {A : Option Addr} {l : List Pr} (h : RdP w A l) {k : Nat} (hk : k < l.length) : ∃ b o, A = some ⟨b, o, none⟩ ∧ b < w.heap.size ∧ w.cell? ⟨b, o + k * 2, none⟩ = some (.int .i64 (l[k]).lo) ∧ w.cell? ⟨b, o + k * 2 + 1, none⟩ = some (.int .i64 (l[k]).hi) := by
  obtain ⟨b, o, e, hb, hc⟩ := h (by omega)
  refine ⟨b, o, e, hb, ?_, ?_⟩
  · exact hc (k * 2 + 0) _ (by rw [prList_at l k 0 hk (by omega)]; rfl)
  · rw [Nat.add_assoc]; exact hc (k * 2 + 1) _ (by rw [prList_at l k 1 hk (by omega)]; rfl)
theorem ownsAt.rdP {w : World} {base n c : Nat} {A : Option Addr} {l : List Pr} (h : ownsAt w base 38 2 (.slice A n c) n (prList l)) (hn : l.length = n) : RdP w A l := fun h0 => by
  obtain ⟨g, o, e, _, hg, hc, _⟩ := h.at_ rfl (by omega)
  exact ⟨g, _, e, hg, hc⟩
/-- What is free, at block q. -/
def Fr (w : World) (q base : Nat) (fr to : Int) (v : Value) (l : List Pr) : Prop :=
  q < w.heap.size ∧ (w.cell? ⟨q, 0, none⟩ = some (.int .i64 fr) ∧ w.cell? ⟨q, 1, none⟩ = some (.int .i64 to) ∧ w.cell? ⟨q, 2, none⟩ = some v) ∧
  (w.frozen? ⟨q, 0, none⟩ = false ∧ w.frozen? ⟨q, 1, none⟩ = false ∧ w.frozen? ⟨q, 2, none⟩ = false) ∧ ownsAt w base 38 2 v l.length (prList l) ∧ base ≤ q ∧ ∀ g, v.ownBlock = some g → ¬ g = q
theorem Fr.only {S : Nat → Prop} {w w' : World} {q base : Nat} {fr to : Int} {v : Value} {l : List Pr} (h : Fr w q base fr to v l) (x : Only S w w') (h1 : ¬ S q) (h2 : ∀ g, v.ownBlock = some g → ¬ S g) : Fr w' q base fr to v l := by
  obtain ⟨hq, ⟨a0, a1, a2⟩, ⟨f0, f1, f2⟩, ho, hb, hn⟩ := h
  exact ⟨Nat.lt_of_lt_of_le hq x.size, ⟨(x.cells q 0 hq h1).trans a0, (x.cells q 1 hq h1).trans a1, (x.cells q 2 hq h1).trans a2⟩, ⟨(x.frozens q 0 hq h1).trans f0, (x.frozens q 1 hq h1).trans f1, (x.frozens q 2 hq h1).trans f2⟩, ho.only x h2, hb, hn⟩
theorem Fr.ext {w w' : World} {q base : Nat} {fr to : Int} {v : Value} {l : List Pr} (h : Fr w q base fr to v l) (x : Ext w w') : Fr w' q base fr to v l := h.only (Only.ofExt (S := fun _ => False) x) id (fun _ _ => id)
/-- All runs are within bounds. -/
def okF (l : List Pr) : Prop := ∀ x ∈ l, 0 ≤ x.lo ∧ x.lo ≤ x.hi ∧ x.hi ≤ 16777216
def Pr.len (p : Pr) : Int := p.hi - p.lo
def sumP (l : List Pr) : Int := (l.map Pr.len).sum
def mostP (l : List Pr) : Int := l.foldl (fun m p => max m p.len) 0
theorem sumP_one (l : List Pr) (p : Pr) : sumP (l ++ [p]) = sumP l + p.len := by
  unfold sumP
  rw [List.map_append, List.sum_append]
  simp
theorem mostP_one (l : List Pr) (p : Pr) : mostP (l ++ [p]) = max (mostP l) p.len := by simp [mostP]
theorem okF.len {l : List Pr} (h : okF l) {x : Pr} (hx : x ∈ l) : 0 ≤ x.len ∧ x.len ≤ 16777216 := by have := h x hx; unfold Pr.len; omega
theorem sumP_bound {l : List Pr} (h : okF l) : 0 ≤ sumP l ∧ sumP l ≤ 16777216 * (l.length : Int) := by
  induction l with
  | nil => simp [sumP]
  | cons x l ih =>
    have h1 := ih (fun y hy => h y (List.mem_cons_of_mem _ hy))
    have h2 := h.len (List.mem_cons_self (a := x) (l := l))
    have : sumP (x :: l) = x.len + sumP l := by simp [sumP]
    rw [this, List.length_cons]
    omega
theorem okF.take {l : List Pr} (h : okF l) (k : Nat) : okF (l.take k) := fun x hx => h x (List.mem_of_mem_take hx)
/-- A granule's multiple? -/
def g16 (n : Int) : Bool := decide (n.tmod 16 = 0)
set_option maxRecDepth 100000 in
set_option maxHeartbeats 4000000 in
theorem gran1_ (n : Int) (w : World) : Calls Try.prog 33 #[.int .i64 n] w fun e w' => e = .returned (.bool (!g16 n)) ∧ w' = w := by
  go_enter Try.func33, Try.ntmps33
  go_wp2
  go_ret
  exact ⟨by show Ending.returned (Value.bool (n.tmod 16 != 0)) = _; unfold g16; by_cases h : n.tmod 16 = 0 <;> simp [h], rfl⟩
set_option maxRecDepth 100000 in
set_option maxHeartbeats 4000000 in
theorem idxG_ (A : Option Addr) (c : Nat) (zs : List Int) (w : World) (hz : SlAt w A (zs.map (Value.int .i64))) (hl : zs.length ≤ 1000000) :
    Calls Try.prog 36 #[.slice A zs.length c, .func (.func 33) #[] #[]] w fun e w' => ∃ r : Int, e = .returned (.int .i64 r) ∧ decide (0 ≤ r) = !zs.all g16 ∧ Ext w w' := by
  have HZ := hid hz
  clear hz
  have hfn : ∀ args w', Sem.run Try.prog (callFunc 33 args) w' = .ok (.enter 33 args) w' := fun args w' => enterOf Try.func33 (by kernel_rfl) (by kernel_rfl) _ _
  go_enter Try.func36, Try.ntmps36
  go_wp2
  go_loopw [8] (fun i wr => ∃ k : Nat, k ≤ zs.length ∧ i = .int .i64 k ∧ Hid (∀ j (h : j < zs.length), j < k → g16 zs[j] = true) ∧ Ext w wr) (fun i _ => zs.length - (intOf i).toNat)
  case atStart => exact ⟨0, Nat.zero_le _, rfl, hid (fun j _ h => absurd h (by omega)), (by repeat (first | (with_reducible exact Ext.refl _) | (with_reducible refine Ext.undrew ?_) | (with_reducible refine Ext.grow ?_ _) | (with_reducible refine Ext.drew ?_) | (with_reducible refine Ext.drewN ?_ _) | (with_reducible refine Ext.alloc ?_ _) | (with_reducible assumption) | ((with_reducible refine Ext.setCell ?_ ?_ _); rotate_left; (first | exact Nat.le_refl _ | ((try dsimp only); (try simp only [World.size_alloc, grow_size, World.size_setCell]); omega)))))⟩
  case round =>
    obtain ⟨k, hk, rfl, HP, hx⟩ := hrel
    by_cases hlt : k < zs.length
    · obtain ⟨b, o, rfl, hb, hcell0⟩ := HZ.out (by rw [List.length_map]; omega)
      have hcell : wr.cell? ⟨b, o + k, none⟩ = some (.int .i64 zs[k]) := by
        rw [hx.cells b _ hb, hcell0 k (by rw [List.length_map]; omega), List.getElem_map]
      clear hcell0
      have hk1 : (k : Int) < (zs.length : Int) := by omega
      have hk0 : (0 : Int) ≤ (k : Int) := by omega
      have hk2 : k + 1 ≤ zs.length := by omega
      cases hg : g16 zs[k] with
      | false =>
        go_wp2_with (refine (gran1_ zs[k] _).mono ?_; rw [hg]; rintro e w1 ⟨rfl, rfl⟩)
        go_ret
        refine ⟨k, rfl, ?_, (by repeat (first | (with_reducible exact Ext.refl _) | (with_reducible refine Ext.undrew ?_) | (with_reducible refine Ext.grow ?_ _) | (with_reducible refine Ext.drew ?_) | (with_reducible refine Ext.drewN ?_ _) | (with_reducible refine Ext.alloc ?_ _) | (with_reducible assumption) | ((with_reducible refine Ext.setCell ?_ ?_ _); rotate_left; (first | exact Nat.le_refl _ | ((try dsimp only); (try simp only [World.size_alloc, grow_size, World.size_setCell]); omega)))))⟩
        have : zs.all g16 = false := by
          rw [List.all_eq_false]
          exact ⟨zs[k], List.getElem_mem _, by rw [hg]; decide⟩
        rw [this]
        exact decide_eq_true hk0
      | true =>
        go_wp2_with (refine (gran1_ zs[k] _).mono ?_; rw [hg]; rintro e w1 ⟨rfl, rfl⟩)
        go_roundw
        case rel => exact ⟨k + 1, hk2, by go_num, hid (fun j h hj => by
          rcases Nat.lt_or_ge j k with h1 | h1
          · exact HP.out j h h1
          · obtain rfl : j = k := by omega
            exact hg), (by repeat (first | (with_reducible exact Ext.refl _) | (with_reducible refine Ext.undrew ?_) | (with_reducible refine Ext.grow ?_ _) | (with_reducible refine Ext.drew ?_) | (with_reducible refine Ext.drewN ?_ _) | (with_reducible refine Ext.alloc ?_ _) | (with_reducible assumption) | ((with_reducible refine Ext.setCell ?_ ?_ _); rotate_left; (first | exact Nat.le_refl _ | ((try dsimp only); (try simp only [World.size_alloc, grow_size, World.size_setCell]); omega)))))⟩
        case measure => simp [intOf]; omega
    · obtain rfl : k = zs.length := by omega
      have hk1 : ¬ (zs.length : Int) < (zs.length : Int) := by omega
      go_wp2
      go_ret
      refine ⟨-1, rfl, ?_, hx⟩
      have : zs.all g16 = true := by
        rw [List.all_eq_true]
        intro x hxm
        obtain ⟨j, hj, rfl⟩ := List.mem_iff_getElem.1 hxm
        exact HP.out j hj hj
      rw [this]
      decide
set_option maxRecDepth 100000 in
set_option maxHeartbeats 4000000 in
theorem hasG_ (A : Option Addr) (c : Nat) (zs : List Int) (w : World) (hz : SlAt w A (zs.map (Value.int .i64))) (hl : zs.length ≤ 1000000) :
    Calls Try.prog 32 #[.slice A zs.length c, .func (.func 33) #[] #[]] w fun e w' => e = .returned (.bool (!zs.all g16)) ∧ Ext w w' := by
  have H := hid (idxG_ A c zs w hz hl)
  clear hz
  go_enter Try.func32, Try.ntmps32
  go_wp2_with (go_at_call 36; refine H.out.mono ?_; rintro e w1 ⟨r, rfl, hr, hx⟩)
  go_ret
  exact ⟨rfl, hx⟩
theorem gran_ (A : Option Addr) (c : Nat) (zs : List Int) (w : World) (hz : SlAt w A (zs.map (Value.int .i64))) (hl : zs.length ≤ 1000000) :
    Calls Try.prog 22 #[.slice A zs.length c] w fun e w' => e = .returned (.bool (zs.all g16)) ∧ Ext w w' := by
  have H := hid (hasG_ A c zs w hz hl)
  clear hz
  go_enter Try.func22, Try.ntmps22
  go_wp2_with (go_at_call 32; refine H.out.mono ?_; rintro e w1 ⟨rfl, hx⟩)
  go_ret
  exact ⟨rfl, hx⟩
set_option maxRecDepth 100000 in
set_option maxHeartbeats 4000000 in
theorem len_ (p : Pr) (d : Int) (hd : wrap64 (p.hi - p.lo) = d) (w : World) : Calls Try.prog 25 #[.agg #[.int .i64 p.lo, .int .i64 p.hi]] w fun e w' => e = .returned (.int .i64 d) ∧ Ext w w' := by
  subst hd
  go_enter Try.func25, Try.ntmps25
  go_wp2
  go_ret
  exact ⟨rfl, (by repeat (first | (with_reducible exact Ext.refl _) | (with_reducible refine Ext.undrew ?_) | (with_reducible refine Ext.grow ?_ _) | (with_reducible refine Ext.drew ?_) | (with_reducible refine Ext.drewN ?_ _) | (with_reducible refine Ext.alloc ?_ _) | (with_reducible assumption) | ((with_reducible refine Ext.setCell ?_ ?_ _); rotate_left; (first | exact Nat.le_refl _ | ((try dsimp only); (try simp only [World.size_alloc, grow_size, World.size_setCell]); omega)))))⟩

end Go.Proofs.Ytkjakaoimbmcjaa
