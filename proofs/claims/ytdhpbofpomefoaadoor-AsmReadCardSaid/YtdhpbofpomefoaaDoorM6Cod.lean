/- M6Cod: CodA CodB CodR CodS -/
import Derived.Test.YtdhpbofpomefoaaDoorMBase
import Derived.Lib.OthersKept
import Derived.Laws.RangeString
namespace Go.Proofs.YtdhpbofpomefoaaDoor
set_option maxRecDepth 100000
set_option linter.unusedSimpArgs false
set_option linter.unusedVariables false
open Go.RowKit


def kd (op : Int) : Nat :=
  if op ∈ ([0, 24] : List Int) then 1 else if op ∈ ([1, 10] : List Int) then 2 else if op ∈ ([2, 22, 23, 25, 26, 27, 28] : List Int) then 3 else if op ∈ ([3, 4, 5, 6, 7, 8, 17, 18, 20, 21] : List Int) then 4 else if op ∈ ([9] : List Int) then 5 else if op ∈ ([11, 12, 13, 14, 15, 16, 19] : List Int) then 6 else if op ∈ ([29] : List Int) then 7 else 0
def fR (n : Int) : Bool := decide (0 ≤ n) && decide (n ≤ 7)
def fI (n : Int) : Bool := decide (0 ≤ n) && decide (n ≤ 255)
def fW (n : Int) : Bool := decide (-32768 ≤ n) && decide (n ≤ 32767)
def fZ (n : Int) : Bool := decide (n = 0)
def kA : Nat → Int → Bool
  | 1 => fZ | 2 => fR | 3 => fR | 4 => fR | 5 => fZ | 6 => fR | 7 => fI | _ => fun _ => false
def kB : Nat → Int → Bool
  | 1 => fZ | 2 => fW | 3 => fR | 4 => fR | 5 => fW | 6 => fR | 7 => fZ | _ => fun _ => false
def kC : Nat → Int → Bool
  | 1 => fZ | 2 => fZ | 3 => fZ | 4 => fR | 5 => fZ | 6 => fI | 7 => fZ | _ => fun _ => false
def rightI (op a b c : Int) : Bool := kA (kd op) a && (kB (kd op) b && kC (kd op) c)
theorem kd_cases (op : Int) : kd op = 0 ∨ kd op = 1 ∨ kd op = 2 ∨ kd op = 3 ∨ kd op = 4 ∨ kd op = 5 ∨ kd op = 6 ∨ kd op = 7 := by
  unfold kd
  repeat' split
  all_goals simp
def kstr : Nat → ByteArray
  | 1 => ⟨#[45, 45, 45]⟩
  | 2 => ⟨#[114, 119, 118]⟩
  | 3 => ⟨#[114, 114, 45]⟩
  | 4 => ⟨#[114, 114, 114]⟩
  | 5 => ⟨#[45, 119, 118]⟩
  | 6 => ⟨#[114, 114, 105]⟩
  | 7 => ⟨#[105, 45, 45]⟩
  | _ => ⟨#[]⟩
def inL (op : Int) (zs : List Int) : Bool := decide (op ∈ zs)
theorem upto_ne {zs : List Int} {op : Int} {k : Nat} (hlt : k < zs.length) (h : ∀ j (hj : j < zs.length), j < k → ¬ op = zs[j]) (he : ¬ op = zs[k]) : ∀ j (hj : j < zs.length), j < k + 1 → ¬ op = zs[j] := by
  intro j hj hjk
  rcases Nat.lt_or_ge j k with h' | h'
  · exact h j hj h'
  · obtain rfl : j = k := by omega
    exact he
set_option maxHeartbeats 2000000 in
theorem among_ (op : Int) (A : Option Addr) (ca : Nat) (zs : List Int) (w : World) (hA : SlAt w A (zs.map (Value.int .i64))) (hn : zs.length ≤ 1000) :
    Calls Tryd.prog 40 #[.int .i64 op, .slice A zs.length ca] w fun e w' => e = .returned (.bool (inL op zs)) ∧ Ext w w' := by
  have HA := hid hA
  clear hA
  go_enter Tryd.func40, Tryd.ntmps40
  go_wp2
  go_loopw [9] (fun i wr => ∃ k : Nat, k ≤ zs.length ∧ i = .int .i64 k ∧ Hid (∀ j (h : j < zs.length), j < k → ¬ op = zs[j]) ∧ Ext w wr) (fun i _ => zs.length - (intOf i).toNat)
  case atStart => exact ⟨0, Nat.zero_le _, rfl, hid fun j h hj => absurd hj (by omega), (by repeat (first | (with_reducible exact Ext.refl _) | (with_reducible refine Ext.undrew ?_) | (with_reducible refine Ext.grow ?_ _) | (with_reducible refine Ext.drew ?_) | (with_reducible refine Ext.drewN ?_ _) | (with_reducible refine Ext.alloc ?_ _) | (with_reducible assumption) | ((with_reducible refine Ext.setCell ?_ ?_ _); rotate_left; (first | exact Nat.le_refl _ | ((try dsimp only); (try simp only [World.size_alloc, grow_size, World.size_setCell]); omega)))))⟩
  case round =>
    obtain ⟨k, hk, rfl, hall, hx⟩ := hrel
    by_cases hlt : k < zs.length
    · obtain ⟨b, off, rfl, hb, hc⟩ := HA.out (by simpa using (by omega : 0 < zs.length))
      have hck : wr.cell? ⟨b, off + k, none⟩ = some (.int .i64 zs[k]) := by
        rw [hx.cells b _ hb, hc k (by simpa using hlt)]
        simp
      clear hc
      have hk0 : (0 : Int) ≤ (k : Int) := by omega
      have hk1 : (k : Int) < (zs.length : Int) := by omega
      by_cases he : op = zs[k]
      · have hm : inL op zs = true := by unfold inL; rw [he]; simp
        have HM := hid hm
        have he' : (op == zs[k]) = true := by simpa using he
        clear hm he
        go_wp2
        all_goals go_ret
        all_goals exact ⟨by rw [HM.out]; rfl, (by repeat (first | (with_reducible exact Ext.refl _) | (with_reducible refine Ext.undrew ?_) | (with_reducible refine Ext.grow ?_ _) | (with_reducible refine Ext.drew ?_) | (with_reducible refine Ext.drewN ?_ _) | (with_reducible refine Ext.alloc ?_ _) | (with_reducible assumption) | ((with_reducible refine Ext.setCell ?_ ?_ _); rotate_left; (first | exact Nat.le_refl _ | ((try dsimp only); (try simp only [World.size_alloc, grow_size, World.size_setCell]); omega)))))⟩
      · have he' : (op == zs[k]) = false := by simpa using he
        go_wp2
        go_roundw
        case rel => exact ⟨k + 1, by omega, by go_num, hid (upto_ne hlt hall.out he), (by repeat (first | (with_reducible exact Ext.refl _) | (with_reducible refine Ext.undrew ?_) | (with_reducible refine Ext.grow ?_ _) | (with_reducible refine Ext.drew ?_) | (with_reducible refine Ext.drewN ?_ _) | (with_reducible refine Ext.alloc ?_ _) | (with_reducible assumption) | ((with_reducible refine Ext.setCell ?_ ?_ _); rotate_left; (first | exact Nat.le_refl _ | ((try dsimp only); (try simp only [World.size_alloc, grow_size, World.size_setCell]); omega)))))⟩
        case measure => simp [intOf]; omega
    · have hm : inL op zs = false := by
        unfold inL
        simp only [decide_eq_false_iff_not]
        intro h
        obtain ⟨j, hj, e⟩ := List.getElem_of_mem h
        exact hall.out j hj (by omega) e.symm
      have HM := hid hm
      clear hm
      go_wp2
      go_ret
      exact ⟨by rw [HM.out]; rfl, (by repeat (first | (with_reducible exact Ext.refl _) | (with_reducible refine Ext.undrew ?_) | (with_reducible refine Ext.grow ?_ _) | (with_reducible refine Ext.drew ?_) | (with_reducible refine Ext.drewN ?_ _) | (with_reducible refine Ext.alloc ?_ _) | (with_reducible assumption) | ((with_reducible refine Ext.setCell ?_ ?_ _); rotate_left; (first | exact Nat.le_refl _ | ((try dsimp only); (try simp only [World.size_alloc, grow_size, World.size_setCell]); omega)))))⟩

theorem sl0 (w : World) (q : Nat) (hq : q = w.heap.size) : SlAt (w.alloc (.cells #[.int .i64 0, .int .i64 24] 3)) (some ⟨q, 0, none⟩) ([0, 24].map (Value.int .i64)) := by
  subst hq
  exact slAtNew _ _ _
theorem sl1 (w : World) (q : Nat) (hq : q = w.heap.size) : SlAt (w.alloc (.cells #[.int .i64 1, .int .i64 10] 3)) (some ⟨q, 0, none⟩) ([1, 10].map (Value.int .i64)) := by
  subst hq
  exact slAtNew _ _ _
theorem sl2 (w : World) (q : Nat) (hq : q = w.heap.size) : SlAt (w.alloc (.cells #[.int .i64 2, .int .i64 22, .int .i64 23, .int .i64 25, .int .i64 26, .int .i64 27, .int .i64 28] 3)) (some ⟨q, 0, none⟩) ([2, 22, 23, 25, 26, 27, 28].map (Value.int .i64)) := by
  subst hq
  exact slAtNew _ _ _
theorem sl3 (w : World) (q : Nat) (hq : q = w.heap.size) : SlAt (w.alloc (.cells #[.int .i64 3, .int .i64 4, .int .i64 5, .int .i64 6, .int .i64 7, .int .i64 8, .int .i64 17, .int .i64 18, .int .i64 20, .int .i64 21] 3)) (some ⟨q, 0, none⟩) ([3, 4, 5, 6, 7, 8, 17, 18, 20, 21].map (Value.int .i64)) := by
  subst hq
  exact slAtNew _ _ _
theorem sl4 (w : World) (q : Nat) (hq : q = w.heap.size) : SlAt (w.alloc (.cells #[.int .i64 9] 3)) (some ⟨q, 0, none⟩) ([9].map (Value.int .i64)) := by
  subst hq
  exact slAtNew _ _ _
theorem sl5 (w : World) (q : Nat) (hq : q = w.heap.size) : SlAt (w.alloc (.cells #[.int .i64 11, .int .i64 12, .int .i64 13, .int .i64 14, .int .i64 15, .int .i64 16, .int .i64 19] 3)) (some ⟨q, 0, none⟩) ([11, 12, 13, 14, 15, 16, 19].map (Value.int .i64)) := by
  subst hq
  exact slAtNew _ _ _
theorem sl6 (w : World) (q : Nat) (hq : q = w.heap.size) : SlAt (w.alloc (.cells #[.int .i64 29] 3)) (some ⟨q, 0, none⟩) ([29].map (Value.int .i64)) := by
  subst hq
  exact slAtNew _ _ _
set_option maxRecDepth 100000 in
set_option maxHeartbeats 2000000 in
theorem kinds0 (op : Int) (w : World) (hj : kd op = 0) :
    Calls Tryd.prog 25 #[.int .i64 op] w fun e w' => e = .returned (.string ⟨#[]⟩) ∧ Ext w w' := by
  have m0 : inL op [0, 24] = false := by
    revert hj
    unfold kd inL
    by_cases h0 : op ∈ [0, 24] <;> simp [h0]
    all_goals (repeat' split)
    all_goals simp_all
  have m1 : inL op [1, 10] = false := by
    revert hj
    unfold kd inL
    by_cases h1 : op ∈ [1, 10] <;> simp [h1]
    all_goals (repeat' split)
    all_goals simp_all
  have m2 : inL op [2, 22, 23, 25, 26, 27, 28] = false := by
    revert hj
    unfold kd inL
    by_cases h2 : op ∈ [2, 22, 23, 25, 26, 27, 28] <;> simp [h2]
    all_goals (repeat' split)
    all_goals simp_all
  have m3 : inL op [3, 4, 5, 6, 7, 8, 17, 18, 20, 21] = false := by
    revert hj
    unfold kd inL
    by_cases h3 : op ∈ [3, 4, 5, 6, 7, 8, 17, 18, 20, 21] <;> simp [h3]
    all_goals (repeat' split)
    all_goals simp_all
  have m4 : inL op [9] = false := by
    revert hj
    unfold kd inL
    by_cases h4 : op ∈ [9] <;> simp [h4]
    all_goals (repeat' split)
    all_goals simp_all
  have m5 : inL op [11, 12, 13, 14, 15, 16, 19] = false := by
    revert hj
    unfold kd inL
    by_cases h5 : op ∈ [11, 12, 13, 14, 15, 16, 19] <;> simp [h5]
    all_goals (repeat' split)
    all_goals simp_all
  have m6 : inL op [29] = false := by
    revert hj
    unfold kd inL
    by_cases h6 : op ∈ [29] <;> simp [h6]
    all_goals (repeat' split)
    all_goals simp_all
  clear hj
  go_enter Tryd.func25, Tryd.ntmps25
  go_wp2_with fail
  refine Calls.mono (among_ op _ _ [0, 24] _ (sl0 _ _ (by simp [grow_size])) (by simp)) ?_
  rintro e w1 ⟨rfl, hy⟩; obtain ⟨d0, rfl⟩ := hy.grown; clear hy
  go_wp2_with fail
  refine Calls.mono (among_ op _ _ [1, 10] _ (sl1 _ _ (by simp [grow_size])) (by simp)) ?_
  rintro e w1 ⟨rfl, hy⟩; obtain ⟨d1, rfl⟩ := hy.grown; clear hy
  go_wp2_with fail
  refine Calls.mono (among_ op _ _ [2, 22, 23, 25, 26, 27, 28] _ (sl2 _ _ (by simp [grow_size])) (by simp)) ?_
  rintro e w1 ⟨rfl, hy⟩; obtain ⟨d2, rfl⟩ := hy.grown; clear hy
  go_wp2_with fail
  refine Calls.mono (among_ op _ _ [3, 4, 5, 6, 7, 8, 17, 18, 20, 21] _ (sl3 _ _ (by simp [grow_size])) (by simp)) ?_
  rintro e w1 ⟨rfl, hy⟩; obtain ⟨d3, rfl⟩ := hy.grown; clear hy
  go_wp2_with fail
  refine Calls.mono (among_ op _ _ [9] _ (sl4 _ _ (by simp [grow_size])) (by simp)) ?_
  rintro e w1 ⟨rfl, hy⟩; obtain ⟨d4, rfl⟩ := hy.grown; clear hy
  go_wp2_with fail
  refine Calls.mono (among_ op _ _ [11, 12, 13, 14, 15, 16, 19] _ (sl5 _ _ (by simp [grow_size])) (by simp)) ?_
  rintro e w1 ⟨rfl, hy⟩; obtain ⟨d5, rfl⟩ := hy.grown; clear hy
  go_wp2_with fail
  refine Calls.mono (among_ op _ _ [29] _ (sl6 _ _ (by simp [grow_size])) (by simp)) ?_
  rintro e w1 ⟨rfl, hy⟩; obtain ⟨d6, rfl⟩ := hy.grown; clear hy
  go_wp2
  go_ret
  exact ⟨rfl, (by repeat (first | (with_reducible exact Ext.refl _) | (with_reducible refine Ext.undrew ?_) | (with_reducible refine Ext.grow ?_ _) | (with_reducible refine Ext.drew ?_) | (with_reducible refine Ext.drewN ?_ _) | (with_reducible refine Ext.alloc ?_ _) | (with_reducible assumption) | ((with_reducible refine Ext.setCell ?_ ?_ _); rotate_left; (first | exact Nat.le_refl _ | ((try dsimp only); (try simp only [World.size_alloc, grow_size, World.size_setCell]); omega)))))⟩

set_option maxRecDepth 100000 in
set_option maxHeartbeats 2000000 in
theorem kinds1 (op : Int) (w : World) (hj : kd op = 1) :
    Calls Tryd.prog 25 #[.int .i64 op] w fun e w' => e = .returned (.string ⟨#[45, 45, 45]⟩) ∧ Ext w w' := by
  have m0 : inL op [0, 24] = true := by
    revert hj
    unfold kd inL
    by_cases h0 : op ∈ [0, 24] <;> simp [h0]
    all_goals (repeat' split)
    all_goals simp_all
  clear hj
  go_enter Tryd.func25, Tryd.ntmps25
  go_wp2_with fail
  refine Calls.mono (among_ op _ _ [0, 24] _ (sl0 _ _ (by simp [grow_size])) (by simp)) ?_
  rintro e w1 ⟨rfl, hy⟩; obtain ⟨d0, rfl⟩ := hy.grown; clear hy
  go_wp2
  go_ret
  exact ⟨rfl, (by repeat (first | (with_reducible exact Ext.refl _) | (with_reducible refine Ext.undrew ?_) | (with_reducible refine Ext.grow ?_ _) | (with_reducible refine Ext.drew ?_) | (with_reducible refine Ext.drewN ?_ _) | (with_reducible refine Ext.alloc ?_ _) | (with_reducible assumption) | ((with_reducible refine Ext.setCell ?_ ?_ _); rotate_left; (first | exact Nat.le_refl _ | ((try dsimp only); (try simp only [World.size_alloc, grow_size, World.size_setCell]); omega)))))⟩

set_option maxRecDepth 100000 in
set_option maxHeartbeats 2000000 in
theorem kinds2 (op : Int) (w : World) (hj : kd op = 2) :
    Calls Tryd.prog 25 #[.int .i64 op] w fun e w' => e = .returned (.string ⟨#[114, 119, 118]⟩) ∧ Ext w w' := by
  have m0 : inL op [0, 24] = false := by
    revert hj
    unfold kd inL
    by_cases h0 : op ∈ [0, 24] <;> simp [h0]
    all_goals (repeat' split)
    all_goals simp_all
  have m1 : inL op [1, 10] = true := by
    revert hj
    unfold kd inL
    by_cases h1 : op ∈ [1, 10] <;> simp [h1]
    all_goals (repeat' split)
    all_goals simp_all
  clear hj
  go_enter Tryd.func25, Tryd.ntmps25
  go_wp2_with fail
  refine Calls.mono (among_ op _ _ [0, 24] _ (sl0 _ _ (by simp [grow_size])) (by simp)) ?_
  rintro e w1 ⟨rfl, hy⟩; obtain ⟨d0, rfl⟩ := hy.grown; clear hy
  go_wp2_with fail
  refine Calls.mono (among_ op _ _ [1, 10] _ (sl1 _ _ (by simp [grow_size])) (by simp)) ?_
  rintro e w1 ⟨rfl, hy⟩; obtain ⟨d1, rfl⟩ := hy.grown; clear hy
  go_wp2
  go_ret
  exact ⟨rfl, (by repeat (first | (with_reducible exact Ext.refl _) | (with_reducible refine Ext.undrew ?_) | (with_reducible refine Ext.grow ?_ _) | (with_reducible refine Ext.drew ?_) | (with_reducible refine Ext.drewN ?_ _) | (with_reducible refine Ext.alloc ?_ _) | (with_reducible assumption) | ((with_reducible refine Ext.setCell ?_ ?_ _); rotate_left; (first | exact Nat.le_refl _ | ((try dsimp only); (try simp only [World.size_alloc, grow_size, World.size_setCell]); omega)))))⟩

set_option maxRecDepth 100000 in
set_option maxHeartbeats 2000000 in
theorem kinds3 (op : Int) (w : World) (hj : kd op = 3) :
    Calls Tryd.prog 25 #[.int .i64 op] w fun e w' => e = .returned (.string ⟨#[114, 114, 45]⟩) ∧ Ext w w' := by
  have m0 : inL op [0, 24] = false := by
    revert hj
    unfold kd inL
    by_cases h0 : op ∈ [0, 24] <;> simp [h0]
    all_goals (repeat' split)
    all_goals simp_all
  have m1 : inL op [1, 10] = false := by
    revert hj
    unfold kd inL
    by_cases h1 : op ∈ [1, 10] <;> simp [h1]
    all_goals (repeat' split)
    all_goals simp_all
  have m2 : inL op [2, 22, 23, 25, 26, 27, 28] = true := by
    revert hj
    unfold kd inL
    by_cases h2 : op ∈ [2, 22, 23, 25, 26, 27, 28] <;> simp [h2]
    all_goals (repeat' split)
    all_goals simp_all
  clear hj
  go_enter Tryd.func25, Tryd.ntmps25
  go_wp2_with fail
  refine Calls.mono (among_ op _ _ [0, 24] _ (sl0 _ _ (by simp [grow_size])) (by simp)) ?_
  rintro e w1 ⟨rfl, hy⟩; obtain ⟨d0, rfl⟩ := hy.grown; clear hy
  go_wp2_with fail
  refine Calls.mono (among_ op _ _ [1, 10] _ (sl1 _ _ (by simp [grow_size])) (by simp)) ?_
  rintro e w1 ⟨rfl, hy⟩; obtain ⟨d1, rfl⟩ := hy.grown; clear hy
  go_wp2_with fail
  refine Calls.mono (among_ op _ _ [2, 22, 23, 25, 26, 27, 28] _ (sl2 _ _ (by simp [grow_size])) (by simp)) ?_
  rintro e w1 ⟨rfl, hy⟩; obtain ⟨d2, rfl⟩ := hy.grown; clear hy
  go_wp2
  go_ret
  exact ⟨rfl, (by repeat (first | (with_reducible exact Ext.refl _) | (with_reducible refine Ext.undrew ?_) | (with_reducible refine Ext.grow ?_ _) | (with_reducible refine Ext.drew ?_) | (with_reducible refine Ext.drewN ?_ _) | (with_reducible refine Ext.alloc ?_ _) | (with_reducible assumption) | ((with_reducible refine Ext.setCell ?_ ?_ _); rotate_left; (first | exact Nat.le_refl _ | ((try dsimp only); (try simp only [World.size_alloc, grow_size, World.size_setCell]); omega)))))⟩

set_option maxRecDepth 100000 in
set_option maxHeartbeats 2000000 in
theorem kinds4 (op : Int) (w : World) (hj : kd op = 4) :
    Calls Tryd.prog 25 #[.int .i64 op] w fun e w' => e = .returned (.string ⟨#[114, 114, 114]⟩) ∧ Ext w w' := by
  have m0 : inL op [0, 24] = false := by
    revert hj
    unfold kd inL
    by_cases h0 : op ∈ [0, 24] <;> simp [h0]
    all_goals (repeat' split)
    all_goals simp_all
  have m1 : inL op [1, 10] = false := by
    revert hj
    unfold kd inL
    by_cases h1 : op ∈ [1, 10] <;> simp [h1]
    all_goals (repeat' split)
    all_goals simp_all
  have m2 : inL op [2, 22, 23, 25, 26, 27, 28] = false := by
    revert hj
    unfold kd inL
    by_cases h2 : op ∈ [2, 22, 23, 25, 26, 27, 28] <;> simp [h2]
    all_goals (repeat' split)
    all_goals simp_all
  have m3 : inL op [3, 4, 5, 6, 7, 8, 17, 18, 20, 21] = true := by
    revert hj
    unfold kd inL
    by_cases h3 : op ∈ [3, 4, 5, 6, 7, 8, 17, 18, 20, 21] <;> simp [h3]
    all_goals (repeat' split)
    all_goals simp_all
  clear hj
  go_enter Tryd.func25, Tryd.ntmps25
  go_wp2_with fail
  refine Calls.mono (among_ op _ _ [0, 24] _ (sl0 _ _ (by simp [grow_size])) (by simp)) ?_
  rintro e w1 ⟨rfl, hy⟩; obtain ⟨d0, rfl⟩ := hy.grown; clear hy
  go_wp2_with fail
  refine Calls.mono (among_ op _ _ [1, 10] _ (sl1 _ _ (by simp [grow_size])) (by simp)) ?_
  rintro e w1 ⟨rfl, hy⟩; obtain ⟨d1, rfl⟩ := hy.grown; clear hy
  go_wp2_with fail
  refine Calls.mono (among_ op _ _ [2, 22, 23, 25, 26, 27, 28] _ (sl2 _ _ (by simp [grow_size])) (by simp)) ?_
  rintro e w1 ⟨rfl, hy⟩; obtain ⟨d2, rfl⟩ := hy.grown; clear hy
  go_wp2_with fail
  refine Calls.mono (among_ op _ _ [3, 4, 5, 6, 7, 8, 17, 18, 20, 21] _ (sl3 _ _ (by simp [grow_size])) (by simp)) ?_
  rintro e w1 ⟨rfl, hy⟩; obtain ⟨d3, rfl⟩ := hy.grown; clear hy
  go_wp2
  go_ret
  exact ⟨rfl, (by repeat (first | (with_reducible exact Ext.refl _) | (with_reducible refine Ext.undrew ?_) | (with_reducible refine Ext.grow ?_ _) | (with_reducible refine Ext.drew ?_) | (with_reducible refine Ext.drewN ?_ _) | (with_reducible refine Ext.alloc ?_ _) | (with_reducible assumption) | ((with_reducible refine Ext.setCell ?_ ?_ _); rotate_left; (first | exact Nat.le_refl _ | ((try dsimp only); (try simp only [World.size_alloc, grow_size, World.size_setCell]); omega)))))⟩

set_option maxRecDepth 100000 in
set_option maxHeartbeats 2000000 in
theorem kinds5 (op : Int) (w : World) (hj : kd op = 5) :
    Calls Tryd.prog 25 #[.int .i64 op] w fun e w' => e = .returned (.string ⟨#[45, 119, 118]⟩) ∧ Ext w w' := by
  have m0 : inL op [0, 24] = false := by
    revert hj
    unfold kd inL
    by_cases h0 : op ∈ [0, 24] <;> simp [h0]
    all_goals (repeat' split)
    all_goals simp_all
  have m1 : inL op [1, 10] = false := by
    revert hj
    unfold kd inL
    by_cases h1 : op ∈ [1, 10] <;> simp [h1]
    all_goals (repeat' split)
    all_goals simp_all
  have m2 : inL op [2, 22, 23, 25, 26, 27, 28] = false := by
    revert hj
    unfold kd inL
    by_cases h2 : op ∈ [2, 22, 23, 25, 26, 27, 28] <;> simp [h2]
    all_goals (repeat' split)
    all_goals simp_all
  have m3 : inL op [3, 4, 5, 6, 7, 8, 17, 18, 20, 21] = false := by
    revert hj
    unfold kd inL
    by_cases h3 : op ∈ [3, 4, 5, 6, 7, 8, 17, 18, 20, 21] <;> simp [h3]
    all_goals (repeat' split)
    all_goals simp_all
  have m4 : inL op [9] = true := by
    revert hj
    unfold kd inL
    by_cases h4 : op ∈ [9] <;> simp [h4]
    all_goals (repeat' split)
    all_goals simp_all
  clear hj
  go_enter Tryd.func25, Tryd.ntmps25
  go_wp2_with fail
  refine Calls.mono (among_ op _ _ [0, 24] _ (sl0 _ _ (by simp [grow_size])) (by simp)) ?_
  rintro e w1 ⟨rfl, hy⟩; obtain ⟨d0, rfl⟩ := hy.grown; clear hy
  go_wp2_with fail
  refine Calls.mono (among_ op _ _ [1, 10] _ (sl1 _ _ (by simp [grow_size])) (by simp)) ?_
  rintro e w1 ⟨rfl, hy⟩; obtain ⟨d1, rfl⟩ := hy.grown; clear hy
  go_wp2_with fail
  refine Calls.mono (among_ op _ _ [2, 22, 23, 25, 26, 27, 28] _ (sl2 _ _ (by simp [grow_size])) (by simp)) ?_
  rintro e w1 ⟨rfl, hy⟩; obtain ⟨d2, rfl⟩ := hy.grown; clear hy
  go_wp2_with fail
  refine Calls.mono (among_ op _ _ [3, 4, 5, 6, 7, 8, 17, 18, 20, 21] _ (sl3 _ _ (by simp [grow_size])) (by simp)) ?_
  rintro e w1 ⟨rfl, hy⟩; obtain ⟨d3, rfl⟩ := hy.grown; clear hy
  go_wp2_with fail
  refine Calls.mono (among_ op _ _ [9] _ (sl4 _ _ (by simp [grow_size])) (by simp)) ?_
  rintro e w1 ⟨rfl, hy⟩; obtain ⟨d4, rfl⟩ := hy.grown; clear hy
  go_wp2
  go_ret
  exact ⟨rfl, (by repeat (first | (with_reducible exact Ext.refl _) | (with_reducible refine Ext.undrew ?_) | (with_reducible refine Ext.grow ?_ _) | (with_reducible refine Ext.drew ?_) | (with_reducible refine Ext.drewN ?_ _) | (with_reducible refine Ext.alloc ?_ _) | (with_reducible assumption) | ((with_reducible refine Ext.setCell ?_ ?_ _); rotate_left; (first | exact Nat.le_refl _ | ((try dsimp only); (try simp only [World.size_alloc, grow_size, World.size_setCell]); omega)))))⟩

set_option maxRecDepth 100000 in
set_option maxHeartbeats 2000000 in
theorem kinds6 (op : Int) (w : World) (hj : kd op = 6) :
    Calls Tryd.prog 25 #[.int .i64 op] w fun e w' => e = .returned (.string ⟨#[114, 114, 105]⟩) ∧ Ext w w' := by
  have m0 : inL op [0, 24] = false := by
    revert hj
    unfold kd inL
    by_cases h0 : op ∈ [0, 24] <;> simp [h0]
    all_goals (repeat' split)
    all_goals simp_all
  have m1 : inL op [1, 10] = false := by
    revert hj
    unfold kd inL
    by_cases h1 : op ∈ [1, 10] <;> simp [h1]
    all_goals (repeat' split)
    all_goals simp_all
  have m2 : inL op [2, 22, 23, 25, 26, 27, 28] = false := by
    revert hj
    unfold kd inL
    by_cases h2 : op ∈ [2, 22, 23, 25, 26, 27, 28] <;> simp [h2]
    all_goals (repeat' split)
    all_goals simp_all
  have m3 : inL op [3, 4, 5, 6, 7, 8, 17, 18, 20, 21] = false := by
    revert hj
    unfold kd inL
    by_cases h3 : op ∈ [3, 4, 5, 6, 7, 8, 17, 18, 20, 21] <;> simp [h3]
    all_goals (repeat' split)
    all_goals simp_all
  have m4 : inL op [9] = false := by
    revert hj
    unfold kd inL
    by_cases h4 : op ∈ [9] <;> simp [h4]
    all_goals (repeat' split)
    all_goals simp_all
  have m5 : inL op [11, 12, 13, 14, 15, 16, 19] = true := by
    revert hj
    unfold kd inL
    by_cases h5 : op ∈ [11, 12, 13, 14, 15, 16, 19] <;> simp [h5]
    all_goals (repeat' split)
    all_goals simp_all
  clear hj
  go_enter Tryd.func25, Tryd.ntmps25
  go_wp2_with fail
  refine Calls.mono (among_ op _ _ [0, 24] _ (sl0 _ _ (by simp [grow_size])) (by simp)) ?_
  rintro e w1 ⟨rfl, hy⟩; obtain ⟨d0, rfl⟩ := hy.grown; clear hy
  go_wp2_with fail
  refine Calls.mono (among_ op _ _ [1, 10] _ (sl1 _ _ (by simp [grow_size])) (by simp)) ?_
  rintro e w1 ⟨rfl, hy⟩; obtain ⟨d1, rfl⟩ := hy.grown; clear hy
  go_wp2_with fail
  refine Calls.mono (among_ op _ _ [2, 22, 23, 25, 26, 27, 28] _ (sl2 _ _ (by simp [grow_size])) (by simp)) ?_
  rintro e w1 ⟨rfl, hy⟩; obtain ⟨d2, rfl⟩ := hy.grown; clear hy
  go_wp2_with fail
  refine Calls.mono (among_ op _ _ [3, 4, 5, 6, 7, 8, 17, 18, 20, 21] _ (sl3 _ _ (by simp [grow_size])) (by simp)) ?_
  rintro e w1 ⟨rfl, hy⟩; obtain ⟨d3, rfl⟩ := hy.grown; clear hy
  go_wp2_with fail
  refine Calls.mono (among_ op _ _ [9] _ (sl4 _ _ (by simp [grow_size])) (by simp)) ?_
  rintro e w1 ⟨rfl, hy⟩; obtain ⟨d4, rfl⟩ := hy.grown; clear hy
  go_wp2_with fail
  refine Calls.mono (among_ op _ _ [11, 12, 13, 14, 15, 16, 19] _ (sl5 _ _ (by simp [grow_size])) (by simp)) ?_
  rintro e w1 ⟨rfl, hy⟩; obtain ⟨d5, rfl⟩ := hy.grown; clear hy
  go_wp2
  go_ret
  exact ⟨rfl, (by repeat (first | (with_reducible exact Ext.refl _) | (with_reducible refine Ext.undrew ?_) | (with_reducible refine Ext.grow ?_ _) | (with_reducible refine Ext.drew ?_) | (with_reducible refine Ext.drewN ?_ _) | (with_reducible refine Ext.alloc ?_ _) | (with_reducible assumption) | ((with_reducible refine Ext.setCell ?_ ?_ _); rotate_left; (first | exact Nat.le_refl _ | ((try dsimp only); (try simp only [World.size_alloc, grow_size, World.size_setCell]); omega)))))⟩

set_option maxRecDepth 100000 in
set_option maxHeartbeats 2000000 in
theorem kinds7 (op : Int) (w : World) (hj : kd op = 7) :
    Calls Tryd.prog 25 #[.int .i64 op] w fun e w' => e = .returned (.string ⟨#[105, 45, 45]⟩) ∧ Ext w w' := by
  have m0 : inL op [0, 24] = false := by
    revert hj
    unfold kd inL
    by_cases h0 : op ∈ [0, 24] <;> simp [h0]
    all_goals (repeat' split)
    all_goals simp_all
  have m1 : inL op [1, 10] = false := by
    revert hj
    unfold kd inL
    by_cases h1 : op ∈ [1, 10] <;> simp [h1]
    all_goals (repeat' split)
    all_goals simp_all
  have m2 : inL op [2, 22, 23, 25, 26, 27, 28] = false := by
    revert hj
    unfold kd inL
    by_cases h2 : op ∈ [2, 22, 23, 25, 26, 27, 28] <;> simp [h2]
    all_goals (repeat' split)
    all_goals simp_all
  have m3 : inL op [3, 4, 5, 6, 7, 8, 17, 18, 20, 21] = false := by
    revert hj
    unfold kd inL
    by_cases h3 : op ∈ [3, 4, 5, 6, 7, 8, 17, 18, 20, 21] <;> simp [h3]
    all_goals (repeat' split)
    all_goals simp_all
  have m4 : inL op [9] = false := by
    revert hj
    unfold kd inL
    by_cases h4 : op ∈ [9] <;> simp [h4]
    all_goals (repeat' split)
    all_goals simp_all
  have m5 : inL op [11, 12, 13, 14, 15, 16, 19] = false := by
    revert hj
    unfold kd inL
    by_cases h5 : op ∈ [11, 12, 13, 14, 15, 16, 19] <;> simp [h5]
    all_goals (repeat' split)
    all_goals simp_all
  have m6 : inL op [29] = true := by
    revert hj
    unfold kd inL
    by_cases h6 : op ∈ [29] <;> simp [h6]
    all_goals (repeat' split)
    all_goals simp_all
  clear hj
  go_enter Tryd.func25, Tryd.ntmps25
  go_wp2_with fail
  refine Calls.mono (among_ op _ _ [0, 24] _ (sl0 _ _ (by simp [grow_size])) (by simp)) ?_
  rintro e w1 ⟨rfl, hy⟩; obtain ⟨d0, rfl⟩ := hy.grown; clear hy
  go_wp2_with fail
  refine Calls.mono (among_ op _ _ [1, 10] _ (sl1 _ _ (by simp [grow_size])) (by simp)) ?_
  rintro e w1 ⟨rfl, hy⟩; obtain ⟨d1, rfl⟩ := hy.grown; clear hy
  go_wp2_with fail
  refine Calls.mono (among_ op _ _ [2, 22, 23, 25, 26, 27, 28] _ (sl2 _ _ (by simp [grow_size])) (by simp)) ?_
  rintro e w1 ⟨rfl, hy⟩; obtain ⟨d2, rfl⟩ := hy.grown; clear hy
  go_wp2_with fail
  refine Calls.mono (among_ op _ _ [3, 4, 5, 6, 7, 8, 17, 18, 20, 21] _ (sl3 _ _ (by simp [grow_size])) (by simp)) ?_
  rintro e w1 ⟨rfl, hy⟩; obtain ⟨d3, rfl⟩ := hy.grown; clear hy
  go_wp2_with fail
  refine Calls.mono (among_ op _ _ [9] _ (sl4 _ _ (by simp [grow_size])) (by simp)) ?_
  rintro e w1 ⟨rfl, hy⟩; obtain ⟨d4, rfl⟩ := hy.grown; clear hy
  go_wp2_with fail
  refine Calls.mono (among_ op _ _ [11, 12, 13, 14, 15, 16, 19] _ (sl5 _ _ (by simp [grow_size])) (by simp)) ?_
  rintro e w1 ⟨rfl, hy⟩; obtain ⟨d5, rfl⟩ := hy.grown; clear hy
  go_wp2_with fail
  refine Calls.mono (among_ op _ _ [29] _ (sl6 _ _ (by simp [grow_size])) (by simp)) ?_
  rintro e w1 ⟨rfl, hy⟩; obtain ⟨d6, rfl⟩ := hy.grown; clear hy
  go_wp2
  go_ret
  exact ⟨rfl, (by repeat (first | (with_reducible exact Ext.refl _) | (with_reducible refine Ext.undrew ?_) | (with_reducible refine Ext.grow ?_ _) | (with_reducible refine Ext.drew ?_) | (with_reducible refine Ext.drewN ?_ _) | (with_reducible refine Ext.alloc ?_ _) | (with_reducible assumption) | ((with_reducible refine Ext.setCell ?_ ?_ _); rotate_left; (first | exact Nat.le_refl _ | ((try dsimp only); (try simp only [World.size_alloc, grow_size, World.size_setCell]); omega)))))⟩

set_option maxRecDepth 100000 in
set_option maxHeartbeats 4000000 in
theorem rkinds (op : Int) (w : World) :
    Calls Tryd.prog 28 #[.int .i64 op] w fun e w' => e = .returned (.string (kstr (kd op))) ∧ w = w' := by
  go_enter Tryd.func28, Tryd.ntmps28
  go_wp2
  all_goals go_ret
  all_goals (refine ⟨?_, rfl⟩; simp_all [kd, kstr])

end Go.Proofs.YtdhpbofpomefoaaDoor

namespace Go.Proofs.YtdhpbofpomefoaaDoor
set_option maxRecDepth 100000
set_option linter.unusedSimpArgs false
set_option linter.unusedVariables false
open Go.RowKit


def hasV (lo hi n : Int) : Bool := decide (lo ≤ n) && decide (n ≤ hi)
def loOf (ch : Nat) : Int := if ch = 114 then 0 else if ch = 105 then 0 else if ch = 119 then -32768 else 0
def hiOf (ch : Nat) : Int := if ch = 114 then 7 else if ch = 105 then 255 else if ch = 119 then 32767 else 0
def chAt (s : ByteArray) (i : Nat) : Nat := (s.data.toList.getD i 0).toNat
theorem chAt_get {s : ByteArray} {i : Nat} (h : i < s.size) : (s[i]'h).toNat = chAt s i := by
  unfold chAt
  have h' : i < s.data.toList.length := by simpa using h
  rw [List.getD_eq_getElem?_getD, List.getElem?_eq_getElem h']
  rfl
def okAt (s : ByteArray) (v : Nat → Int) (i : Nat) : Bool := hasV (loOf (chAt s i)) (hiOf (chAt s i)) (v i)
def rightS (s : ByteArray) (v : Nat → Int) : Bool := (List.range s.size).all (okAt s v) && !decide (s.size = 0)
def v3 (a b c : Int) : Nat → Int := fun i => if i = 0 then a else if i = 1 then b else c
theorem fZ_has (n : Int) : hasV 0 0 n = fZ n := by unfold hasV fZ; rw [Bool.eq_iff_iff]; simp; omega
theorem all3 (s : ByteArray) (h : s.size = 3) (v : Nat → Int) : rightS s v = (okAt s v 0 && (okAt s v 1 && okAt s v 2)) := by
  unfold rightS
  rw [h]
  simp [List.range_succ, Bool.and_assoc]
theorem rightS_kstr (op a b c : Int) : rightS (kstr (kd op)) (v3 a b c) = rightI op a b c := by
  unfold rightI
  rcases kd_cases op with h | h | h | h | h | h | h | h <;> rw [h]
  · rfl
  · rw [all3 _ rfl]
    have e0 : chAt (kstr 1) 0 = 45 := by decide
    have e1 : chAt (kstr 1) 1 = 45 := by decide
    have e2 : chAt (kstr 1) 2 = 45 := by decide
    simp only [okAt, e0, e1, e2, kA, kB, kC]
    simp [loOf, hiOf, v3, fZ_has, fR, fI, fW, hasV, fZ]
    try (rw [Bool.eq_iff_iff]; simp; omega)
  · rw [all3 _ rfl]
    have e0 : chAt (kstr 2) 0 = 114 := by decide
    have e1 : chAt (kstr 2) 1 = 119 := by decide
    have e2 : chAt (kstr 2) 2 = 118 := by decide
    simp only [okAt, e0, e1, e2, kA, kB, kC]
    simp [loOf, hiOf, v3, fZ_has, fR, fI, fW, hasV, fZ]
    try (rw [Bool.eq_iff_iff]; simp; omega)
  · rw [all3 _ rfl]
    have e0 : chAt (kstr 3) 0 = 114 := by decide
    have e1 : chAt (kstr 3) 1 = 114 := by decide
    have e2 : chAt (kstr 3) 2 = 45 := by decide
    simp only [okAt, e0, e1, e2, kA, kB, kC]
    simp [loOf, hiOf, v3, fZ_has, fR, fI, fW, hasV, fZ]
    try (rw [Bool.eq_iff_iff]; simp; omega)
  · rw [all3 _ rfl]
    have e0 : chAt (kstr 4) 0 = 114 := by decide
    have e1 : chAt (kstr 4) 1 = 114 := by decide
    have e2 : chAt (kstr 4) 2 = 114 := by decide
    simp only [okAt, e0, e1, e2, kA, kB, kC]
    simp [loOf, hiOf, v3, fZ_has, fR, fI, fW, hasV, fZ]
    try (rw [Bool.eq_iff_iff]; simp; omega)
  · rw [all3 _ rfl]
    have e0 : chAt (kstr 5) 0 = 45 := by decide
    have e1 : chAt (kstr 5) 1 = 119 := by decide
    have e2 : chAt (kstr 5) 2 = 118 := by decide
    simp only [okAt, e0, e1, e2, kA, kB, kC]
    simp [loOf, hiOf, v3, fZ_has, fR, fI, fW, hasV, fZ]
    try (rw [Bool.eq_iff_iff]; simp; omega)
  · rw [all3 _ rfl]
    have e0 : chAt (kstr 6) 0 = 114 := by decide
    have e1 : chAt (kstr 6) 1 = 114 := by decide
    have e2 : chAt (kstr 6) 2 = 105 := by decide
    simp only [okAt, e0, e1, e2, kA, kB, kC]
    simp [loOf, hiOf, v3, fZ_has, fR, fI, fW, hasV, fZ]
    try (rw [Bool.eq_iff_iff]; simp; omega)
  · rw [all3 _ rfl]
    have e0 : chAt (kstr 7) 0 = 105 := by decide
    have e1 : chAt (kstr 7) 1 = 45 := by decide
    have e2 : chAt (kstr 7) 2 = 45 := by decide
    simp only [okAt, e0, e1, e2, kA, kB, kC]
    simp [loOf, hiOf, v3, fZ_has, fR, fI, fW, hasV, fZ]
    try (rw [Bool.eq_iff_iff]; simp; omega)
theorem kstr_ascii : ∀ j : Fin 8, ∀ i : Fin 3, chAt (kstr j.val) i.val < 128 := by decide
theorem kstr_size : ∀ j : Fin 8, (kstr j.val).size = if j.val = 0 then 0 else 3 := by decide
theorem kstr_w : ∀ j : Fin 8, ∀ i : Fin 3, (chAt (kstr j.val) i.val = 119 → i.val = 1) ∧ (chAt (kstr j.val) i.val = 118 → i.val = 2) := by decide
theorem kd_lt (op : Int) : kd op < 8 := by rcases kd_cases op with h | h | h | h | h | h | h | h <;> omega
theorem turn_iter (w : World) (k : Nat) (s : ByteArray) (i : Nat) : w.iterAt k s i = turn w k (.stringIter s i) := rfl
theorem enterOf' {P : Program} {f : FuncId} {fn : Func} (hf : P.funcs[f]? = some fn) (hname : (fn.name == "runtime.NumGoroutine") = false) (hc : fn.body.isSome = true) (args : Array Value) (w : World) :
    Sem.run P (callFunc f args) w = .ok (.enter f args) w := by
  have h1 : ¬ fn.name = "runtime.NumGoroutine" := by simpa using hname
  obtain ⟨c, hb⟩ := Option.isSome_iff_exists.1 hc
  simp [callFunc, hf, h1, hb, Sem.run]
set_option maxHeartbeats 800000 in
theorem has_ (lo hi n : Int) (w : World) :
    Calls Tryd.prog 60 #[.agg #[.int .i64 lo, .int .i64 hi], .int .i64 n] w fun e w' => e = .returned (.bool (hasV lo hi n)) ∧ Ext w w' := by
  unfold hasV
  by_cases h1 : lo ≤ n <;> by_cases h2 : n ≤ hi
  all_goals simp only [h1, h2, decide_true, decide_false, Bool.and_true, Bool.true_and, Bool.and_false, Bool.false_and]
  all_goals (go_enter Tryd.func60, Tryd.ntmps60; go_wp2)
  all_goals go_ret
  all_goals exact ⟨rfl, (by repeat (first | (with_reducible exact Ext.refl _) | (with_reducible refine Ext.undrew ?_) | (with_reducible refine Ext.grow ?_ _) | (with_reducible refine Ext.drew ?_) | (with_reducible refine Ext.drewN ?_ _) | (with_reducible refine Ext.alloc ?_ _) | (with_reducible assumption) | ((with_reducible refine Ext.setCell ?_ ?_ _); rotate_left; (first | exact Nat.le_refl _ | ((try dsimp only); (try simp only [World.size_alloc, grow_size, World.size_setCell]); omega)))))⟩

set_option maxHeartbeats 800000 in
theorem of_ (ch : Nat) (w : World) :
    Calls Tryd.prog 44 #[.int .i32 ch] w fun e w' => e = .returned (.func (.func 60) #[.agg #[.int .i64 (loOf ch), .int .i64 (hiOf ch)]] #[]) ∧ w = w' := by
  by_cases h1 : ch = 114
  · subst h1
    go_enter Tryd.func44, Tryd.ntmps44
    go_wp2
    go_ret
    exact ⟨rfl, rfl⟩
  · by_cases h2 : ch = 105
    · subst h2
      go_enter Tryd.func44, Tryd.ntmps44
      go_wp2
      go_ret
      exact ⟨rfl, rfl⟩
    · by_cases h3 : ch = 119
      · subst h3
        go_enter Tryd.func44, Tryd.ntmps44
        go_wp2
        go_ret
        exact ⟨rfl, rfl⟩
      · have e : loOf ch = 0 ∧ hiOf ch = 0 := by unfold loOf hiOf; simp [h1, h2, h3]
        rw [e.1, e.2]
        have e1 : ((ch : Int) == 114) = false := by simp; omega
        have e2 : ((ch : Int) == 105) = false := by simp; omega
        have e3 : ((ch : Int) == 119) = false := by simp; omega
        clear e h1 h2 h3
        go_enter Tryd.func44, Tryd.ntmps44
        go_wp2
        go_ret
        exact ⟨rfl, rfl⟩

set_option maxHeartbeats 800000 in
theorem kinds_ (op : Int) (w : World) :
    Calls Tryd.prog 25 #[.int .i64 op] w fun e w' => e = .returned (.string (kstr (kd op))) ∧ Ext w w' := by
  rcases kd_cases op with h | h | h | h | h | h | h | h
  · rw [h]; exact kinds0 op w h
  · rw [h]; exact kinds1 op w h
  · rw [h]; exact kinds2 op w h
  · rw [h]; exact kinds3 op w h
  · rw [h]; exact kinds4 op w h
  · rw [h]; exact kinds5 op w h
  · rw [h]; exact kinds6 op w h
  · rw [h]; exact kinds7 op w h

end Go.Proofs.YtdhpbofpomefoaaDoor

namespace Go.Proofs.YtdhpbofpomefoaaDoor
set_option maxRecDepth 100000
set_option linter.unusedSimpArgs false
set_option linter.unusedVariables false
open Go.RowKit

set_option maxRecDepth 100000 in
set_option maxHeartbeats 4000000 in
theorem right_ (op a b c : Int) (w : World) :
    Calls Tryd.prog 30 #[.agg #[.int .i64 op, .int .i64 a, .int .i64 b, .int .i64 c]] w fun e w' => e = .returned (.bool (rightI op a b c)) ∧ Ext w w' := by
  have hR := rightS_kstr op a b c
  have hs3 : (kstr (kd op)).size ≤ 3 := by have := kstr_size ⟨kd op, kd_lt op⟩; simp only at this; split at this <;> omega
  have has : ∀ i, i < 3 → chAt (kstr (kd op)) i < 128 := fun i hi => kstr_ascii ⟨kd op, kd_lt op⟩ ⟨i, hi⟩
  have hfn : ∀ args w', Sem.run Tryd.prog (callFunc 60 args) w' = .ok (.enter 60 args) w' := fun args w' => enterOf' Tryd.func60 (by kernel_rfl) (by kernel_rfl) args w'
  have hK := fun w => kinds_ op w
  generalize kstr (kd op) = s at hR hs3 has hK
  rw [← hR]
  have HAS := hid has
  have HK := hid hK
  clear hR has hK
  go_enter Tryd.func30, Tryd.ntmps30
  go_wp2_with (go_at_call 25; refine (HK.out _).mono ?_; rintro e w1 ⟨rfl, hy⟩; obtain ⟨d, rfl⟩ := hy.grown; clear hy)
  have f1 : Hid (Ext w (Go.Proofs.YtdhpbofpomefoaaDoor.grow ((w.alloc (.cells #[.int .i64 op, .int .i64 a, .int .i64 b, .int .i64 c] 23)).alloc (.cells #[.int .i64 a, .int .i64 b, .int .i64 c] 45)) d)) := hid (by repeat (first | (with_reducible exact Ext.refl _) | (with_reducible refine Ext.undrew ?_) | (with_reducible refine Ext.grow ?_ _) | (with_reducible refine Ext.drew ?_) | (with_reducible refine Ext.drewN ?_ _) | (with_reducible refine Ext.alloc ?_ _) | (with_reducible assumption) | ((with_reducible refine Ext.setCell ?_ ?_ _); rotate_left; (first | exact Nat.le_refl _ | ((try dsimp only); (try simp only [World.size_alloc, grow_size, World.size_setCell]); omega)))))
  have f3 : ∀ i, i < 3 → (Go.Proofs.YtdhpbofpomefoaaDoor.grow ((w.alloc (.cells #[.int .i64 op, .int .i64 a, .int .i64 b, .int .i64 c] 23)).alloc (.cells #[.int .i64 a, .int .i64 b, .int .i64 c] 45)) d).cell? ⟨w.heap.size + 1, i, none⟩ = some (.int .i64 (v3 a b c i)) := fun i hi => by
    match i, hi with
    | 0, _ => simp [go_sem, v3]
    | 1, _ => simp [go_sem, v3]
    | 2, _ => simp [go_sem, v3]
  have f4 : w.heap.size + 1 + 1 + d.n = (Go.Proofs.YtdhpbofpomefoaaDoor.grow ((w.alloc (.cells #[.int .i64 op, .int .i64 a, .int .i64 b, .int .i64 c] 23)).alloc (.cells #[.int .i64 a, .int .i64 b, .int .i64 c] 45)) d).heap.size := by simp [grow_size]
  rw [f4]
  generalize (Go.Proofs.YtdhpbofpomefoaaDoor.grow ((w.alloc (.cells #[.int .i64 op, .int .i64 a, .int .i64 b, .int .i64 c] 23)).alloc (.cells #[.int .i64 a, .int .i64 b, .int .i64 c] 45)) d) = W at f1 f3 f4 ⊢
  have F3 := hid f3
  have hq : w.heap.size + 1 < W.heap.size := by omega
  clear f3 f4
  go_loopw [] (fun wr => ∃ i : Nat, i ≤ s.size ∧ Hid (wr.heap[W.heap.size]? = some (.stringIter s i)) ∧ Hid (∀ j, j < i → okAt s (v3 a b c) j = true) ∧ Hid (Ext W wr)) (fun wr => s.size - wr.iterPos W.heap.size)
  case atStart => exact ⟨0, Nat.zero_le _, hid (World.iter_heap _ _ _), hid fun j hj => absurd hj (by omega), hid (Ext.alloc (Ext.refl W) _)⟩
  case round =>
    obtain ⟨i, hi, hit, hall, hx⟩ := hrel
    by_cases hlt : i < s.size
    · have hi3 : i < 3 := by omega
      have ha := HAS.out i hi3
      have hch := chAt_get hlt
      have hc := (hx.out.cells (w.heap.size + 1) i hq).trans (F3.out i hi3)
      have hs := hx.out.size
      have hqr : w.heap.size + 1 < wr.heap.size := by omega
      have hqn : ¬ w.heap.size + 1 = W.heap.size := by omega
      have HI0 : (0 : Int) ≤ (i : Int) := by omega
      have HI1 : (i : Int) < 3 := by omega
      have hwt : Hid ((wr.iterAt W.heap.size s (i + 1)).heap[W.heap.size]? = some (.stringIter s (i + 1))) := hid (Lib.iterAt_heap _ _ _ _ _ hit.out)
      have hxt : Hid (Ext W (wr.iterAt W.heap.size s (i + 1))) := hid (Ext.turn hx.out (Nat.le_refl _) _)
      have hct := (turn_cell wr W.heap.size (.stringIter s (i + 1)) (w.heap.size + 1) i hqn).trans hc
      have hst : (wr.iterAt W.heap.size s (i + 1)).heap.size = wr.heap.size := turn_size _ _ _
      rw [← turn_iter] at hct
      have hnx := fun ty => Lib.run_next_ascii_at (P := Tryd.prog) wr W.heap.size s i ty hit.out hlt (by rw [hch]; exact ha)
      rw [hch] at hnx
      have HNX := hid hnx
      clear hnx hch hc hqn
      generalize wr.iterAt W.heap.size s (i + 1) = wt at hwt hxt hct hst HNX
      have hqt : w.heap.size + 1 < wt.heap.size := by omega
      have hkt : W.heap.size < wt.heap.size := (Array.getElem?_eq_some_iff.1 hwt.out).1
      cases hB : okAt s (v3 a b c) i with
      | true =>
        have HB := hid hB
        have HALL := hid (upto_snoc hall.out hB)
        clear hB hall hst hs hqr
        go_wp2
        rw [HNX.out]
        go_wp2_with (first | (go_at_call 44; refine Calls.mono (of_ (chAt s i) _) ?_; rintro e w1 ⟨rfl, rfl⟩) | (refine Calls.mono (has_ (loOf (chAt s i)) (hiOf (chAt s i)) (v3 a b c i) _) ?_; rw [show hasV (loOf (chAt s i)) (hiOf (chAt s i)) (v3 a b c i) = okAt s (v3 a b c) i from rfl, HB.out]; rintro e w1 ⟨rfl, hy⟩; obtain ⟨d, rfl⟩ := hy.grown; clear hy))
        go_roundw
        case rel => exact ⟨i + 1, by omega, hid ((grow_old wt d _ hkt).trans hwt.out), HALL, hid (Ext.trans hxt.out (by repeat (first | (with_reducible exact Ext.refl _) | (with_reducible refine Ext.undrew ?_) | (with_reducible refine Ext.grow ?_ _) | (with_reducible refine Ext.drew ?_) | (with_reducible refine Ext.drewN ?_ _) | (with_reducible refine Ext.alloc ?_ _) | (with_reducible assumption) | ((with_reducible refine Ext.setCell ?_ ?_ _); rotate_left; (first | exact Nat.le_refl _ | ((try dsimp only); (try simp only [World.size_alloc, grow_size, World.size_setCell]); omega))))))⟩
        case measure =>
          have e1 : wr.iterPos W.heap.size = i := by simp [World.iterPos, hit.out]
          rw [e1]
          simp only [World.iterPos]
          rw [grow_old wt d _ hkt, hwt.out]
          simp only
          omega
      | false =>
        have HB := hid hB
        have hno : rightS s (v3 a b c) = false := by unfold rightS; rw [all_range_false hlt hB]; rfl
        have HNO := hid hno
        clear hB hall hst hs hqr hno
        go_wp2
        rw [HNX.out]
        go_wp2_with (first | (go_at_call 44; refine Calls.mono (of_ (chAt s i) _) ?_; rintro e w1 ⟨rfl, rfl⟩) | (refine Calls.mono (has_ (loOf (chAt s i)) (hiOf (chAt s i)) (v3 a b c i) _) ?_; rw [show hasV (loOf (chAt s i)) (hiOf (chAt s i)) (v3 a b c i) = okAt s (v3 a b c) i from rfl, HB.out]; rintro e w1 ⟨rfl, hy⟩; obtain ⟨d, rfl⟩ := hy.grown; clear hy))
        go_ret
        exact ⟨by rw [HNO.out]; rfl, Ext.trans f1.out (Ext.trans hxt.out (by repeat (first | (with_reducible exact Ext.refl _) | (with_reducible refine Ext.undrew ?_) | (with_reducible refine Ext.grow ?_ _) | (with_reducible refine Ext.drew ?_) | (with_reducible refine Ext.drewN ?_ _) | (with_reducible refine Ext.alloc ?_ _) | (with_reducible assumption) | ((with_reducible refine Ext.setCell ?_ ?_ _); rotate_left; (first | exact Nat.le_refl _ | ((try dsimp only); (try simp only [World.size_alloc, grow_size, World.size_setCell]); omega))))))⟩
    · have hi' : i = s.size := by omega
      subst hi'
      have hall' := all_range_true hall.out
      have hyes : rightS s (v3 a b c) = !decide (s.size = 0) := by unfold rightS; rw [hall']; rfl
      have HY := hid hyes
      have HNX := hid fun ty => Lib.run_next_end_at (P := Tryd.prog) wr W.heap.size s s.size ty hit.out (by omega)
      have hemp : (!s.toList.isEmpty) = !decide (s.size = 0) := by
        rw [ByteArray.toList_eq]
        by_cases h0 : s.size = 0
        · have e : s.data.toList = [] := by
            apply List.eq_nil_of_length_eq_zero
            simpa using h0
          rw [e]
          simp [h0]
        · have e : ¬ s.data.toList = [] := fun e => h0 (by have := congrArg List.length e; simpa using this)
          simp only [h0, decide_false, Bool.not_false, Bool.not_eq_true', List.isEmpty_eq_false_iff]
          exact e
      have HE := hid hemp
      clear hall' hall hyes hemp
      go_wp2
      rw [HNX.out]
      go_wp2
      go_ret
      exact ⟨by rw [HY.out, ← HE.out]; rfl, Ext.trans f1.out (Ext.trans hx.out (by repeat (first | (with_reducible exact Ext.refl _) | (with_reducible refine Ext.undrew ?_) | (with_reducible refine Ext.grow ?_ _) | (with_reducible refine Ext.drew ?_) | (with_reducible refine Ext.drewN ?_ _) | (with_reducible refine Ext.alloc ?_ _) | (with_reducible assumption) | ((with_reducible refine Ext.setCell ?_ ?_ _); rotate_left; (first | exact Nat.le_refl _ | ((try dsimp only); (try simp only [World.size_alloc, grow_size, World.size_setCell]); omega))))))⟩

end Go.Proofs.YtdhpbofpomefoaaDoor

namespace Go.Proofs.YtdhpbofpomefoaaDoor
set_option maxRecDepth 100000
set_option linter.unusedSimpArgs false
set_option linter.unusedVariables false
open Go.RowKit

set_option maxHeartbeats 2000000 in
theorem fine_ (ch : Nat) (n : Int) (w : World) :
    Calls Tryd.prog 36 #[.int .u8 ch, .int .i64 n] w fun e w' => e = .returned (.bool (hasV (loOf ch) (hiOf ch) n)) ∧ w = w' := by
  by_cases h1 : ch = 114
  · subst h1
    have e : hasV (loOf 114) (hiOf 114) n = (decide (0 ≤ n) && decide (n ≤ 7)) := rfl
    rw [e]
    clear e
    by_cases g1 : 0 ≤ n <;> by_cases g2 : n ≤ 7
    all_goals simp only [g1, g2, decide_true, decide_false, Bool.and_true, Bool.true_and, Bool.and_false, Bool.false_and]
    all_goals (go_enter Tryd.func36, Tryd.ntmps36; go_wp2)
    all_goals go_ret
    all_goals exact ⟨by first | rfl | (simp; omega), rfl⟩
  · by_cases h2 : ch = 105
    · subst h2
      have e : hasV (loOf 105) (hiOf 105) n = (decide (0 ≤ n) && decide (n ≤ 255)) := rfl
      rw [e]
      clear e
      by_cases g1 : 0 ≤ n <;> by_cases g2 : n ≤ 255
      all_goals simp only [g1, g2, decide_true, decide_false, Bool.and_true, Bool.true_and, Bool.and_false, Bool.false_and]
      all_goals (go_enter Tryd.func36, Tryd.ntmps36; go_wp2)
      all_goals go_ret
      all_goals exact ⟨by first | rfl | (simp; omega), rfl⟩
    · by_cases h3 : ch = 119
      · subst h3
        have e : hasV (loOf 119) (hiOf 119) n = (decide (-32768 ≤ n) && decide (n ≤ 32767)) := rfl
        rw [e]
        clear e
        by_cases g1 : -32768 ≤ n <;> by_cases g2 : n ≤ 32767
        all_goals simp only [g1, g2, decide_true, decide_false, Bool.and_true, Bool.true_and, Bool.and_false, Bool.false_and]
        all_goals (go_enter Tryd.func36, Tryd.ntmps36; go_wp2)
        all_goals go_ret
        all_goals exact ⟨by first | rfl | (simp; omega), rfl⟩
      · have e : loOf ch = 0 ∧ hiOf ch = 0 := by unfold loOf hiOf; simp [h1, h2, h3]
        rw [e.1, e.2, fZ_has]
        unfold fZ
        have e1 : ((ch : Int) == 114) = false := by simp; omega
        have e2 : ((ch : Int) == 105) = false := by simp; omega
        have e3 : ((ch : Int) == 119) = false := by simp; omega
        clear e h1 h2 h3
        go_enter Tryd.func36, Tryd.ntmps36
        go_wp2
        go_ret
        exact ⟨rfl, rfl⟩

theorem empties (s : ByteArray) : s.toList.isEmpty = decide (s.size = 0) := by
  rw [ByteArray.toList_eq]
  by_cases h0 : s.size = 0
  · have e : s.data.toList = [] := by
      apply List.eq_nil_of_length_eq_zero
      simpa using h0
    rw [e]
    simp [h0]
  · have e : ¬ s.data.toList = [] := fun e => h0 (by have := congrArg List.length e; simpa using this)
    simp only [h0, decide_false, List.isEmpty_eq_false_iff]
    exact e
theorem index_str (s : ByteArray) (i : Nat) (h : i < s.size) (w : World) : (Instr.index 9 (.string s) (.int .i64 (i : Int))).run Tryd.prog w = .ok (.int .u8 (chAt s i)) w := by
  rw [← chAt_get h]
  simp [Instr.index, go_sem, h]
set_option maxRecDepth 100000 in
set_option maxHeartbeats 8000000 in
theorem rright15 (op a b c : Int) (w : World) :
    Calls Tryd.prog 21 #[.agg #[.int .i64 op, .int .i64 a, .int .i64 b, .int .i64 c]] w fun e w' => e = .returned (.bool (rightI op a b c)) ∧ Ext w w' := by
  have hR := rightS_kstr op a b c
  have hs3 : (kstr (kd op)).size = 0 ∨ (kstr (kd op)).size = 3 := by have := kstr_size ⟨kd op, kd_lt op⟩; simp only at this; split at this <;> omega
  have hK := fun w => rkinds op w
  generalize kstr (kd op) = s at hR hs3 hK
  rw [← hR]
  have HK := hid hK
  clear hR hK
  rcases hs3 with hs | hs
  · have e : rightS s (v3 a b c) = false := by unfold rightS; rw [hs]; rfl
    rw [e]
    have he : (!s.toList.isEmpty) = false := by rw [empties, hs]; rfl
    clear e hs
    go_enter Tryd.func21, Tryd.ntmps21
    go_wp2_with (go_at_call 28; refine (HK.out _).mono ?_; rintro e w1 ⟨rfl, rfl⟩)
    refine wp_region_step (.rd 0 (.rd 1 (.rd 2 (.rd 3 (.rd 4 (.rd 5 (.rd 6 (.ac 7 (.rd 8 (.rd 9 (.rd 10 (.rd 11 (.rd 12 (.rd 13 (.ac 14 (.rd 15 (.rd 16 (.rd 17 (.rd 18 (.rd 19 (.rd 20 (.ac 21 (.rd 22 (.rd 23 .done)))))))))))))))))))))))) (by kernel_rfl) (by kernel_rfl) (fun _ _ d _ _ h => by cases d <;> exact h) (by simp only [Ord.map, nthOp, List.append]; rfl) ?_
    intro d0
    repeat' (first | (refine step_read (by rfl) (fun K hK => ?_); go_big_quiet_op; refine hK _ ?_; clear hK K) | (refine step_act (by rfl) (fun K hK => ?_); go_wp2_with (first | (go_at_call 36; with_reducible refine Calls.mono (fine_ (chAt s 0) a _) ?_; rw [show hasV (loOf (chAt s 0)) (hiOf (chAt s 0)) a = okAt s (v3 a b c) 0 from rfl, HB0.out]; rintro e w1 ⟨rfl, rfl⟩) | (go_at_call 36; with_reducible refine Calls.mono (fine_ (chAt s 1) b _) ?_; rw [show hasV (loOf (chAt s 1)) (hiOf (chAt s 1)) b = okAt s (v3 a b c) 1 from rfl, HB1.out]; rintro e w1 ⟨rfl, rfl⟩) | (go_at_call 36; with_reducible refine Calls.mono (fine_ (chAt s 2) c _) ?_; rw [show hasV (loOf (chAt s 2)) (hiOf (chAt s 2)) c = okAt s (v3 a b c) 2 from rfl, HB2.out]; rintro e w1 ⟨rfl, rfl⟩)); refine ⟨_, Ext.refl _, (by repeat (first | (with_reducible exact Ext.refl _) | (with_reducible refine Ext.undrew ?_) | (with_reducible refine Ext.grow ?_ _) | (with_reducible refine Ext.drew ?_) | (with_reducible refine Ext.drewN ?_ _) | (with_reducible refine Ext.alloc ?_ _) | (with_reducible assumption) | ((with_reducible refine Ext.setCell ?_ ?_ _); rotate_left; (first | exact Nat.le_refl _ | ((try dsimp only); (try simp only [World.size_alloc, grow_size, World.size_setCell]); omega))))), ?_⟩) | refine step_br ?_ ?_ | (refine step_skip (by rfl) ?_; simp only [Act.put, List.setIfInBounds_toArray, List.set_cons_zero, List.set_cons_succ]) | (refine step_idle (by rfl) ?_; simp only [Act.put, List.setIfInBounds_toArray, List.set_cons_zero, List.set_cons_succ]))
    all_goals refine step_nil ?_
    all_goals go_wp2
    all_goals go_ret
    all_goals exact ⟨rfl, (by repeat (first | (with_reducible exact Ext.refl _) | (with_reducible refine Ext.undrew ?_) | (with_reducible refine Ext.grow ?_ _) | (with_reducible refine Ext.drew ?_) | (with_reducible refine Ext.drewN ?_ _) | (with_reducible refine Ext.alloc ?_ _) | (with_reducible assumption) | ((with_reducible refine Ext.setCell ?_ ?_ _); rotate_left; (first | exact Nat.le_refl _ | ((try dsimp only); (try simp only [World.size_alloc, grow_size, World.size_setCell]); omega)))))⟩
  · have hA := all3 s hs (v3 a b c)
    have he : (!s.toList.isEmpty) = true := by rw [empties, hs]; rfl
    rw [hA]
    clear hA
    cases hB0 : okAt s (v3 a b c) 0 with
    | false =>
      simp only [Bool.false_and]
      have HR := hid (rfl : True = True)
      have HB0 := hid hB0
      clear hB0
      have i0 : ∀ w, (Instr.index 9 (.string s) (.int .i64 0)).run Tryd.prog w = .ok (.int .u8 (chAt s 0)) w := index_str s 0 (by omega)
      have i1 : ∀ w, (Instr.index 9 (.string s) (.int .i64 1)).run Tryd.prog w = .ok (.int .u8 (chAt s 1)) w := index_str s 1 (by omega)
      have i2 : ∀ w, (Instr.index 9 (.string s) (.int .i64 2)).run Tryd.prog w = .ok (.int .u8 (chAt s 2)) w := index_str s 2 (by omega)
      clear hs
      go_enter Tryd.func21, Tryd.ntmps21
      go_wp2_with (go_at_call 28; refine (HK.out _).mono ?_; rintro e w1 ⟨rfl, rfl⟩)
      refine wp_region_step (.rd 0 (.rd 1 (.rd 2 (.rd 3 (.rd 4 (.rd 5 (.rd 6 (.ac 7 (.rd 8 (.rd 9 (.rd 10 (.rd 11 (.rd 12 (.rd 13 (.ac 14 (.rd 15 (.rd 16 (.rd 17 (.rd 18 (.rd 19 (.rd 20 (.ac 21 (.rd 22 (.rd 23 .done)))))))))))))))))))))))) (by kernel_rfl) (by kernel_rfl) (fun _ _ d _ _ h => by cases d <;> exact h) (by simp only [Ord.map, nthOp, List.append]; rfl) ?_
      intro d0
      repeat' (first | (refine step_read (by rfl) (fun K hK => ?_); go_big_quiet_op; refine hK _ ?_; clear hK K) | (refine step_act (by rfl) (fun K hK => ?_); go_wp2_with (first | (go_at_call 36; with_reducible refine Calls.mono (fine_ (chAt s 0) a _) ?_; rw [show hasV (loOf (chAt s 0)) (hiOf (chAt s 0)) a = okAt s (v3 a b c) 0 from rfl, HB0.out]; rintro e w1 ⟨rfl, rfl⟩) | (go_at_call 36; with_reducible refine Calls.mono (fine_ (chAt s 1) b _) ?_; rw [show hasV (loOf (chAt s 1)) (hiOf (chAt s 1)) b = okAt s (v3 a b c) 1 from rfl, HB1.out]; rintro e w1 ⟨rfl, rfl⟩) | (go_at_call 36; with_reducible refine Calls.mono (fine_ (chAt s 2) c _) ?_; rw [show hasV (loOf (chAt s 2)) (hiOf (chAt s 2)) c = okAt s (v3 a b c) 2 from rfl, HB2.out]; rintro e w1 ⟨rfl, rfl⟩)); refine ⟨_, Ext.refl _, (by repeat (first | (with_reducible exact Ext.refl _) | (with_reducible refine Ext.undrew ?_) | (with_reducible refine Ext.grow ?_ _) | (with_reducible refine Ext.drew ?_) | (with_reducible refine Ext.drewN ?_ _) | (with_reducible refine Ext.alloc ?_ _) | (with_reducible assumption) | ((with_reducible refine Ext.setCell ?_ ?_ _); rotate_left; (first | exact Nat.le_refl _ | ((try dsimp only); (try simp only [World.size_alloc, grow_size, World.size_setCell]); omega))))), ?_⟩) | refine step_br ?_ ?_ | (refine step_skip (by rfl) ?_; simp only [Act.put, List.setIfInBounds_toArray, List.set_cons_zero, List.set_cons_succ]) | (refine step_idle (by rfl) ?_; simp only [Act.put, List.setIfInBounds_toArray, List.set_cons_zero, List.set_cons_succ]))
      all_goals refine step_nil ?_
      all_goals go_wp2
      all_goals go_ret
      all_goals exact ⟨by first | rfl | (rw [HR.out]; rfl), (by repeat (first | (with_reducible exact Ext.refl _) | (with_reducible refine Ext.undrew ?_) | (with_reducible refine Ext.grow ?_ _) | (with_reducible refine Ext.drew ?_) | (with_reducible refine Ext.drewN ?_ _) | (with_reducible refine Ext.alloc ?_ _) | (with_reducible assumption) | ((with_reducible refine Ext.setCell ?_ ?_ _); rotate_left; (first | exact Nat.le_refl _ | ((try dsimp only); (try simp only [World.size_alloc, grow_size, World.size_setCell]); omega)))))⟩
    | true =>
      cases hB1 : okAt s (v3 a b c) 1 with
      | false =>
        simp only [Bool.false_and, Bool.and_false]
        have HR := hid (rfl : True = True)
        have HB0 := hid hB0
        clear hB0
        have HB1 := hid hB1
        clear hB1
        have i0 : ∀ w, (Instr.index 9 (.string s) (.int .i64 0)).run Tryd.prog w = .ok (.int .u8 (chAt s 0)) w := index_str s 0 (by omega)
        have i1 : ∀ w, (Instr.index 9 (.string s) (.int .i64 1)).run Tryd.prog w = .ok (.int .u8 (chAt s 1)) w := index_str s 1 (by omega)
        have i2 : ∀ w, (Instr.index 9 (.string s) (.int .i64 2)).run Tryd.prog w = .ok (.int .u8 (chAt s 2)) w := index_str s 2 (by omega)
        clear hs
        go_enter Tryd.func21, Tryd.ntmps21
        go_wp2_with (go_at_call 28; refine (HK.out _).mono ?_; rintro e w1 ⟨rfl, rfl⟩)
        refine wp_region_step (.rd 0 (.rd 1 (.rd 2 (.rd 3 (.rd 4 (.rd 5 (.rd 6 (.ac 7 (.rd 8 (.rd 9 (.rd 10 (.rd 11 (.rd 12 (.rd 13 (.ac 14 (.rd 15 (.rd 16 (.rd 17 (.rd 18 (.rd 19 (.rd 20 (.ac 21 (.rd 22 (.rd 23 .done)))))))))))))))))))))))) (by kernel_rfl) (by kernel_rfl) (fun _ _ d _ _ h => by cases d <;> exact h) (by simp only [Ord.map, nthOp, List.append]; rfl) ?_
        intro d0
        repeat' (first | (refine step_read (by rfl) (fun K hK => ?_); go_big_quiet_op; refine hK _ ?_; clear hK K) | (refine step_act (by rfl) (fun K hK => ?_); go_wp2_with (first | (go_at_call 36; with_reducible refine Calls.mono (fine_ (chAt s 0) a _) ?_; rw [show hasV (loOf (chAt s 0)) (hiOf (chAt s 0)) a = okAt s (v3 a b c) 0 from rfl, HB0.out]; rintro e w1 ⟨rfl, rfl⟩) | (go_at_call 36; with_reducible refine Calls.mono (fine_ (chAt s 1) b _) ?_; rw [show hasV (loOf (chAt s 1)) (hiOf (chAt s 1)) b = okAt s (v3 a b c) 1 from rfl, HB1.out]; rintro e w1 ⟨rfl, rfl⟩) | (go_at_call 36; with_reducible refine Calls.mono (fine_ (chAt s 2) c _) ?_; rw [show hasV (loOf (chAt s 2)) (hiOf (chAt s 2)) c = okAt s (v3 a b c) 2 from rfl, HB2.out]; rintro e w1 ⟨rfl, rfl⟩)); refine ⟨_, Ext.refl _, (by repeat (first | (with_reducible exact Ext.refl _) | (with_reducible refine Ext.undrew ?_) | (with_reducible refine Ext.grow ?_ _) | (with_reducible refine Ext.drew ?_) | (with_reducible refine Ext.drewN ?_ _) | (with_reducible refine Ext.alloc ?_ _) | (with_reducible assumption) | ((with_reducible refine Ext.setCell ?_ ?_ _); rotate_left; (first | exact Nat.le_refl _ | ((try dsimp only); (try simp only [World.size_alloc, grow_size, World.size_setCell]); omega))))), ?_⟩) | refine step_br ?_ ?_ | (refine step_skip (by rfl) ?_; simp only [Act.put, List.setIfInBounds_toArray, List.set_cons_zero, List.set_cons_succ]) | (refine step_idle (by rfl) ?_; simp only [Act.put, List.setIfInBounds_toArray, List.set_cons_zero, List.set_cons_succ]))
        all_goals refine step_nil ?_
        all_goals go_wp2
        all_goals go_ret
        all_goals exact ⟨by first | rfl | (rw [HR.out]; rfl), (by repeat (first | (with_reducible exact Ext.refl _) | (with_reducible refine Ext.undrew ?_) | (with_reducible refine Ext.grow ?_ _) | (with_reducible refine Ext.drew ?_) | (with_reducible refine Ext.drewN ?_ _) | (with_reducible refine Ext.alloc ?_ _) | (with_reducible assumption) | ((with_reducible refine Ext.setCell ?_ ?_ _); rotate_left; (first | exact Nat.le_refl _ | ((try dsimp only); (try simp only [World.size_alloc, grow_size, World.size_setCell]); omega)))))⟩
      | true =>
        cases hB2 : okAt s (v3 a b c) 2 with
        | false =>
          simp only [Bool.and_false]
          have HR := hid (rfl : True = True)
          have HB0 := hid hB0
          clear hB0
          have HB1 := hid hB1
          clear hB1
          have HB2 := hid hB2
          clear hB2
          have i0 : ∀ w, (Instr.index 9 (.string s) (.int .i64 0)).run Tryd.prog w = .ok (.int .u8 (chAt s 0)) w := index_str s 0 (by omega)
          have i1 : ∀ w, (Instr.index 9 (.string s) (.int .i64 1)).run Tryd.prog w = .ok (.int .u8 (chAt s 1)) w := index_str s 1 (by omega)
          have i2 : ∀ w, (Instr.index 9 (.string s) (.int .i64 2)).run Tryd.prog w = .ok (.int .u8 (chAt s 2)) w := index_str s 2 (by omega)
          clear hs
          go_enter Tryd.func21, Tryd.ntmps21
          go_wp2_with (go_at_call 28; refine (HK.out _).mono ?_; rintro e w1 ⟨rfl, rfl⟩)
          refine wp_region_step (.rd 0 (.rd 1 (.rd 2 (.rd 3 (.rd 4 (.rd 5 (.rd 6 (.ac 7 (.rd 8 (.rd 9 (.rd 10 (.rd 11 (.rd 12 (.rd 13 (.ac 14 (.rd 15 (.rd 16 (.rd 17 (.rd 18 (.rd 19 (.rd 20 (.ac 21 (.rd 22 (.rd 23 .done)))))))))))))))))))))))) (by kernel_rfl) (by kernel_rfl) (fun _ _ d _ _ h => by cases d <;> exact h) (by simp only [Ord.map, nthOp, List.append]; rfl) ?_
          intro d0
          repeat' (first | (refine step_read (by rfl) (fun K hK => ?_); go_big_quiet_op; refine hK _ ?_; clear hK K) | (refine step_act (by rfl) (fun K hK => ?_); go_wp2_with (first | (go_at_call 36; with_reducible refine Calls.mono (fine_ (chAt s 0) a _) ?_; rw [show hasV (loOf (chAt s 0)) (hiOf (chAt s 0)) a = okAt s (v3 a b c) 0 from rfl, HB0.out]; rintro e w1 ⟨rfl, rfl⟩) | (go_at_call 36; with_reducible refine Calls.mono (fine_ (chAt s 1) b _) ?_; rw [show hasV (loOf (chAt s 1)) (hiOf (chAt s 1)) b = okAt s (v3 a b c) 1 from rfl, HB1.out]; rintro e w1 ⟨rfl, rfl⟩) | (go_at_call 36; with_reducible refine Calls.mono (fine_ (chAt s 2) c _) ?_; rw [show hasV (loOf (chAt s 2)) (hiOf (chAt s 2)) c = okAt s (v3 a b c) 2 from rfl, HB2.out]; rintro e w1 ⟨rfl, rfl⟩)); refine ⟨_, Ext.refl _, (by repeat (first | (with_reducible exact Ext.refl _) | (with_reducible refine Ext.undrew ?_) | (with_reducible refine Ext.grow ?_ _) | (with_reducible refine Ext.drew ?_) | (with_reducible refine Ext.drewN ?_ _) | (with_reducible refine Ext.alloc ?_ _) | (with_reducible assumption) | ((with_reducible refine Ext.setCell ?_ ?_ _); rotate_left; (first | exact Nat.le_refl _ | ((try dsimp only); (try simp only [World.size_alloc, grow_size, World.size_setCell]); omega))))), ?_⟩) | refine step_br ?_ ?_ | (refine step_skip (by rfl) ?_; simp only [Act.put, List.setIfInBounds_toArray, List.set_cons_zero, List.set_cons_succ]) | (refine step_idle (by rfl) ?_; simp only [Act.put, List.setIfInBounds_toArray, List.set_cons_zero, List.set_cons_succ]))
          all_goals refine step_nil ?_
          all_goals go_wp2
          all_goals go_ret
          all_goals exact ⟨by first | rfl | (rw [HR.out]; rfl), (by repeat (first | (with_reducible exact Ext.refl _) | (with_reducible refine Ext.undrew ?_) | (with_reducible refine Ext.grow ?_ _) | (with_reducible refine Ext.drew ?_) | (with_reducible refine Ext.drewN ?_ _) | (with_reducible refine Ext.alloc ?_ _) | (with_reducible assumption) | ((with_reducible refine Ext.setCell ?_ ?_ _); rotate_left; (first | exact Nat.le_refl _ | ((try dsimp only); (try simp only [World.size_alloc, grow_size, World.size_setCell]); omega)))))⟩
        | true =>
          simp only [Bool.and_true]
          have HR := hid (rfl : True = True)
          have HB0 := hid hB0
          clear hB0
          have HB1 := hid hB1
          clear hB1
          have HB2 := hid hB2
          clear hB2
          have i0 : ∀ w, (Instr.index 9 (.string s) (.int .i64 0)).run Tryd.prog w = .ok (.int .u8 (chAt s 0)) w := index_str s 0 (by omega)
          have i1 : ∀ w, (Instr.index 9 (.string s) (.int .i64 1)).run Tryd.prog w = .ok (.int .u8 (chAt s 1)) w := index_str s 1 (by omega)
          have i2 : ∀ w, (Instr.index 9 (.string s) (.int .i64 2)).run Tryd.prog w = .ok (.int .u8 (chAt s 2)) w := index_str s 2 (by omega)
          clear hs
          go_enter Tryd.func21, Tryd.ntmps21
          go_wp2_with (go_at_call 28; refine (HK.out _).mono ?_; rintro e w1 ⟨rfl, rfl⟩)
          refine wp_region_step (.rd 0 (.rd 1 (.rd 2 (.rd 3 (.rd 4 (.rd 5 (.rd 6 (.ac 7 (.rd 8 (.rd 9 (.rd 10 (.rd 11 (.rd 12 (.rd 13 (.ac 14 (.rd 15 (.rd 16 (.rd 17 (.rd 18 (.rd 19 (.rd 20 (.ac 21 (.rd 22 (.rd 23 .done)))))))))))))))))))))))) (by kernel_rfl) (by kernel_rfl) (fun _ _ d _ _ h => by cases d <;> exact h) (by simp only [Ord.map, nthOp, List.append]; rfl) ?_
          intro d0
          repeat' (first | (refine step_read (by rfl) (fun K hK => ?_); go_big_quiet_op; refine hK _ ?_; clear hK K) | (refine step_act (by rfl) (fun K hK => ?_); go_wp2_with (first | (go_at_call 36; with_reducible refine Calls.mono (fine_ (chAt s 0) a _) ?_; rw [show hasV (loOf (chAt s 0)) (hiOf (chAt s 0)) a = okAt s (v3 a b c) 0 from rfl, HB0.out]; rintro e w1 ⟨rfl, rfl⟩) | (go_at_call 36; with_reducible refine Calls.mono (fine_ (chAt s 1) b _) ?_; rw [show hasV (loOf (chAt s 1)) (hiOf (chAt s 1)) b = okAt s (v3 a b c) 1 from rfl, HB1.out]; rintro e w1 ⟨rfl, rfl⟩) | (go_at_call 36; with_reducible refine Calls.mono (fine_ (chAt s 2) c _) ?_; rw [show hasV (loOf (chAt s 2)) (hiOf (chAt s 2)) c = okAt s (v3 a b c) 2 from rfl, HB2.out]; rintro e w1 ⟨rfl, rfl⟩)); refine ⟨_, Ext.refl _, (by repeat (first | (with_reducible exact Ext.refl _) | (with_reducible refine Ext.undrew ?_) | (with_reducible refine Ext.grow ?_ _) | (with_reducible refine Ext.drew ?_) | (with_reducible refine Ext.drewN ?_ _) | (with_reducible refine Ext.alloc ?_ _) | (with_reducible assumption) | ((with_reducible refine Ext.setCell ?_ ?_ _); rotate_left; (first | exact Nat.le_refl _ | ((try dsimp only); (try simp only [World.size_alloc, grow_size, World.size_setCell]); omega))))), ?_⟩) | refine step_br ?_ ?_ | (refine step_skip (by rfl) ?_; simp only [Act.put, List.setIfInBounds_toArray, List.set_cons_zero, List.set_cons_succ]) | (refine step_idle (by rfl) ?_; simp only [Act.put, List.setIfInBounds_toArray, List.set_cons_zero, List.set_cons_succ]))
          all_goals refine step_nil ?_
          all_goals go_wp2
          all_goals go_ret
          all_goals exact ⟨by first | rfl | (rw [HR.out]; rfl), (by repeat (first | (with_reducible exact Ext.refl _) | (with_reducible refine Ext.undrew ?_) | (with_reducible refine Ext.grow ?_ _) | (with_reducible refine Ext.drew ?_) | (with_reducible refine Ext.drewN ?_ _) | (with_reducible refine Ext.alloc ?_ _) | (with_reducible assumption) | ((with_reducible refine Ext.setCell ?_ ?_ _); rotate_left; (first | exact Nat.le_refl _ | ((try dsimp only); (try simp only [World.size_alloc, grow_size, World.size_setCell]); omega)))))⟩

end Go.Proofs.YtdhpbofpomefoaaDoor
