/- M17C: CodA CodB CodR CodG CodH CodS CodI CodO CodJ CodK -/
import Derived.Test.YtgldlkoohfclpaaMBase
import Derived.Lib.OthersKept
import Derived.Laws.RangeString
namespace Go.Proofs.Ytgldlkoohfclpaa
set_option maxRecDepth 100000
set_option linter.unusedSimpArgs false
set_option linter.unusedVariables false
open Go.RowKit


def kd (op : Int) : Nat :=
  if op ∈ ([0, 24] : List Int) then 1 else if op ∈ ([1, 10] : List Int) then 2 else if op ∈ ([2, 22, 23, 25, 26, 27, 28] : List Int) then 3 else if op ∈ ([3, 4, 5, 6, 7, 8, 17, 18, 20, 21] : List Int) then 4 else if op ∈ ([9] : List Int) then 5 else if op ∈ ([11, 12, 13, 14, 15, 16, 19] : List Int) then 6 else if op ∈ ([29] : List Int) then 7 else 0
def fR (n : Int) : Bool := decide (0 ≤ n) && decide (n ≤ 7)
def fI (n : Int) : Bool := decide (0 ≤ n) && decide (n ≤ 255)
def fW (n : Int) : Bool := decide (-32768 ≤ n) && decide (n ≤ 32767)
def fZ (n : Int) : Bool := decide (n = 0)
def kA : Nat → Int → Bool
  | 1 => fZ | 2 => fR | 3 => fR | 4 => fR | 5 => fZ | 6 => fR | 7 => fI | _ => fun _ => false
def kB : Nat → Int → Bool
  | 1 => fZ | 2 => fW | 3 => fR | 4 => fR | 5 => fW | 6 => fR | 7 => fZ | _ => fun _ => false
def kC : Nat → Int → Bool
  | 1 => fZ | 2 => fZ | 3 => fZ | 4 => fR | 5 => fZ | 6 => fI | 7 => fZ | _ => fun _ => false
def rightI (op a b c : Int) : Bool := kA (kd op) a && (kB (kd op) b && kC (kd op) c)
theorem kd_cases (op : Int) : kd op = 0 ∨ kd op = 1 ∨ kd op = 2 ∨ kd op = 3 ∨ kd op = 4 ∨ kd op = 5 ∨ kd op = 6 ∨ kd op = 7 := by
  unfold kd
  repeat' split
  all_goals simp
def kstr : Nat → ByteArray
  | 1 => ⟨#[45, 45, 45]⟩
  | 2 => ⟨#[114, 119, 118]⟩
  | 3 => ⟨#[114, 114, 45]⟩
  | 4 => ⟨#[114, 114, 114]⟩
  | 5 => ⟨#[45, 119, 118]⟩
  | 6 => ⟨#[114, 114, 105]⟩
  | 7 => ⟨#[105, 45, 45]⟩
  | _ => ⟨#[]⟩
def inL (op : Int) (zs : List Int) : Bool := decide (op ∈ zs)
theorem upto_ne {zs : List Int} {op : Int} {k : Nat} (hlt : k < zs.length) (h : ∀ j (hj : j < zs.length), j < k → ¬ op = zs[j]) (he : ¬ op = zs[k]) : ∀ j (hj : j < zs.length), j < k + 1 → ¬ op = zs[j] := by
  intro j hj hjk
  rcases Nat.lt_or_ge j k with h' | h'
  · exact h j hj h'
  · obtain rfl : j = k := by omega
    exact he
set_option maxHeartbeats 2000000 in
theorem among_ (op : Int) (A : Option Addr) (ca : Nat) (zs : List Int) (w : World) (hA : SlAt w A (zs.map (Value.int .i64))) (hn : zs.length ≤ 1000) :
    Calls Try.prog 89 #[.int .i64 op, .slice A zs.length ca] w fun e w' => e = .returned (.bool (inL op zs)) ∧ Ext w w' := by
  have HA := hid hA
  clear hA
  go_enter Try.func89, Try.ntmps89
  go_wp2
  go_loopw [9] (fun i wr => ∃ k : Nat, k ≤ zs.length ∧ i = .int .i64 k ∧ Hid (∀ j (h : j < zs.length), j < k → ¬ op = zs[j]) ∧ Ext w wr) (fun i _ => zs.length - (intOf i).toNat)
  case atStart => exact ⟨0, Nat.zero_le _, rfl, hid fun j h hj => absurd hj (by omega), (by repeat (first | (with_reducible exact Ext.refl _) | (with_reducible refine Ext.undrew ?_) | (with_reducible refine Ext.grow ?_ _) | (with_reducible refine Ext.drew ?_) | (with_reducible refine Ext.drewN ?_ _) | (with_reducible refine Ext.alloc ?_ _) | (with_reducible assumption) | ((with_reducible refine Ext.setCell ?_ ?_ _); rotate_left; (first | exact Nat.le_refl _ | ((try dsimp only); (try simp only [World.size_alloc, grow_size, World.size_setCell]); omega)))))⟩
  case round =>
    obtain ⟨k, hk, rfl, hall, hx⟩ := hrel
    by_cases hlt : k < zs.length
    · obtain ⟨b, off, rfl, hb, hc⟩ := HA.out (by simpa using (by omega : 0 < zs.length))
      have hck : wr.cell? ⟨b, off + k, none⟩ = some (.int .i64 zs[k]) := by
        rw [hx.cells b _ hb, hc k (by simpa using hlt)]
        simp
      clear hc
      have hk0 : (0 : Int) ≤ (k : Int) := by omega
      have hk1 : (k : Int) < (zs.length : Int) := by omega
      by_cases he : op = zs[k]
      · have hm : inL op zs = true := by unfold inL; rw [he]; simp
        have HM := hid hm
        have he' : (op == zs[k]) = true := by simpa using he
        clear hm he
        go_wp2
        all_goals go_ret
        all_goals exact ⟨by rw [HM.out]; rfl, (by repeat (first | (with_reducible exact Ext.refl _) | (with_reducible refine Ext.undrew ?_) | (with_reducible refine Ext.grow ?_ _) | (with_reducible refine Ext.drew ?_) | (with_reducible refine Ext.drewN ?_ _) | (with_reducible refine Ext.alloc ?_ _) | (with_reducible assumption) | ((with_reducible refine Ext.setCell ?_ ?_ _); rotate_left; (first | exact Nat.le_refl _ | ((try dsimp only); (try simp only [World.size_alloc, grow_size, World.size_setCell]); omega)))))⟩
      · have he' : (op == zs[k]) = false := by simpa using he
        go_wp2
        go_roundw
        case rel => exact ⟨k + 1, by omega, by go_num, hid (upto_ne hlt hall.out he), (by repeat (first | (with_reducible exact Ext.refl _) | (with_reducible refine Ext.undrew ?_) | (with_reducible refine Ext.grow ?_ _) | (with_reducible refine Ext.drew ?_) | (with_reducible refine Ext.drewN ?_ _) | (with_reducible refine Ext.alloc ?_ _) | (with_reducible assumption) | ((with_reducible refine Ext.setCell ?_ ?_ _); rotate_left; (first | exact Nat.le_refl _ | ((try dsimp only); (try simp only [World.size_alloc, grow_size, World.size_setCell]); omega)))))⟩
        case measure => simp [intOf]; omega
    · have hm : inL op zs = false := by
        unfold inL
        simp only [decide_eq_false_iff_not]
        intro h
        obtain ⟨j, hj, e⟩ := List.getElem_of_mem h
        exact hall.out j hj (by omega) e.symm
      have HM := hid hm
      clear hm
      go_wp2
      go_ret
      exact ⟨by rw [HM.out]; rfl, (by repeat (first | (with_reducible exact Ext.refl _) | (with_reducible refine Ext.undrew ?_) | (with_reducible refine Ext.grow ?_ _) | (with_reducible refine Ext.drew ?_) | (with_reducible refine Ext.drewN ?_ _) | (with_reducible refine Ext.alloc ?_ _) | (with_reducible assumption) | ((with_reducible refine Ext.setCell ?_ ?_ _); rotate_left; (first | exact Nat.le_refl _ | ((try dsimp only); (try simp only [World.size_alloc, grow_size, World.size_setCell]); omega)))))⟩

theorem sl0 (w : World) (q : Nat) (hq : q = w.heap.size) : SlAt (w.alloc (.cells #[.int .i64 0, .int .i64 24] 3)) (some ⟨q, 0, none⟩) ([0, 24].map (Value.int .i64)) := by
  subst hq
  exact slAtNew _ _ _
theorem sl1 (w : World) (q : Nat) (hq : q = w.heap.size) : SlAt (w.alloc (.cells #[.int .i64 1, .int .i64 10] 3)) (some ⟨q, 0, none⟩) ([1, 10].map (Value.int .i64)) := by
  subst hq
  exact slAtNew _ _ _
theorem sl2 (w : World) (q : Nat) (hq : q = w.heap.size) : SlAt (w.alloc (.cells #[.int .i64 2, .int .i64 22, .int .i64 23, .int .i64 25, .int .i64 26, .int .i64 27, .int .i64 28] 3)) (some ⟨q, 0, none⟩) ([2, 22, 23, 25, 26, 27, 28].map (Value.int .i64)) := by
  subst hq
  exact slAtNew _ _ _
theorem sl3 (w : World) (q : Nat) (hq : q = w.heap.size) : SlAt (w.alloc (.cells #[.int .i64 3, .int .i64 4, .int .i64 5, .int .i64 6, .int .i64 7, .int .i64 8, .int .i64 17, .int .i64 18, .int .i64 20, .int .i64 21] 3)) (some ⟨q, 0, none⟩) ([3, 4, 5, 6, 7, 8, 17, 18, 20, 21].map (Value.int .i64)) := by
  subst hq
  exact slAtNew _ _ _
theorem sl4 (w : World) (q : Nat) (hq : q = w.heap.size) : SlAt (w.alloc (.cells #[.int .i64 9] 3)) (some ⟨q, 0, none⟩) ([9].map (Value.int .i64)) := by
  subst hq
  exact slAtNew _ _ _
theorem sl5 (w : World) (q : Nat) (hq : q = w.heap.size) : SlAt (w.alloc (.cells #[.int .i64 11, .int .i64 12, .int .i64 13, .int .i64 14, .int .i64 15, .int .i64 16, .int .i64 19] 3)) (some ⟨q, 0, none⟩) ([11, 12, 13, 14, 15, 16, 19].map (Value.int .i64)) := by
  subst hq
  exact slAtNew _ _ _
theorem sl6 (w : World) (q : Nat) (hq : q = w.heap.size) : SlAt (w.alloc (.cells #[.int .i64 29] 3)) (some ⟨q, 0, none⟩) ([29].map (Value.int .i64)) := by
  subst hq
  exact slAtNew _ _ _
set_option maxRecDepth 100000 in
set_option maxHeartbeats 2000000 in
theorem kinds0 (op : Int) (w : World) (hj : kd op = 0) :
    Calls Try.prog 86 #[.int .i64 op] w fun e w' => e = .returned (.string ⟨#[]⟩) ∧ Ext w w' := by
  have m0 : inL op [0, 24] = false := by
    revert hj
    unfold kd inL
    by_cases h0 : op ∈ [0, 24] <;> simp [h0]
    all_goals (repeat' split)
    all_goals simp_all
  have m1 : inL op [1, 10] = false := by
    revert hj
    unfold kd inL
    by_cases h1 : op ∈ [1, 10] <;> simp [h1]
    all_goals (repeat' split)
    all_goals simp_all
  have m2 : inL op [2, 22, 23, 25, 26, 27, 28] = false := by
    revert hj
    unfold kd inL
    by_cases h2 : op ∈ [2, 22, 23, 25, 26, 27, 28] <;> simp [h2]
    all_goals (repeat' split)
    all_goals simp_all
  have m3 : inL op [3, 4, 5, 6, 7, 8, 17, 18, 20, 21] = false := by
    revert hj
    unfold kd inL
    by_cases h3 : op ∈ [3, 4, 5, 6, 7, 8, 17, 18, 20, 21] <;> simp [h3]
    all_goals (repeat' split)
    all_goals simp_all
  have m4 : inL op [9] = false := by
    revert hj
    unfold kd inL
    by_cases h4 : op ∈ [9] <;> simp [h4]
    all_goals (repeat' split)
    all_goals simp_all
  have m5 : inL op [11, 12, 13, 14, 15, 16, 19] = false := by
    revert hj
    unfold kd inL
    by_cases h5 : op ∈ [11, 12, 13, 14, 15, 16, 19] <;> simp [h5]
    all_goals (repeat' split)
    all_goals simp_all
  have m6 : inL op [29] = false := by
    revert hj
    unfold kd inL
    by_cases h6 : op ∈ [29] <;> simp [h6]
    all_goals (repeat' split)
    all_goals simp_all
  clear hj
  go_enter Try.func86, Try.ntmps86
  go_wp2_with fail
  refine Calls.mono (among_ op _ _ [0, 24] _ (sl0 _ _ (by simp [grow_size])) (by simp)) ?_
  rintro e w1 ⟨rfl, hy⟩; obtain ⟨d0, rfl⟩ := hy.grown; clear hy
  go_wp2_with fail
  refine Calls.mono (among_ op _ _ [1, 10] _ (sl1 _ _ (by simp [grow_size])) (by simp)) ?_
  rintro e w1 ⟨rfl, hy⟩; obtain ⟨d1, rfl⟩ := hy.grown; clear hy
  go_wp2_with fail
  refine Calls.mono (among_ op _ _ [2, 22, 23, 25, 26, 27, 28] _ (sl2 _ _ (by simp [grow_size])) (by simp)) ?_
  rintro e w1 ⟨rfl, hy⟩; obtain ⟨d2, rfl⟩ := hy.grown; clear hy
  go_wp2_with fail
  refine Calls.mono (among_ op _ _ [3, 4, 5, 6, 7, 8, 17, 18, 20, 21] _ (sl3 _ _ (by simp [grow_size])) (by simp)) ?_
  rintro e w1 ⟨rfl, hy⟩; obtain ⟨d3, rfl⟩ := hy.grown; clear hy
  go_wp2_with fail
  refine Calls.mono (among_ op _ _ [9] _ (sl4 _ _ (by simp [grow_size])) (by simp)) ?_
  rintro e w1 ⟨rfl, hy⟩; obtain ⟨d4, rfl⟩ := hy.grown; clear hy
  go_wp2_with fail
  refine Calls.mono (among_ op _ _ [11, 12, 13, 14, 15, 16, 19] _ (sl5 _ _ (by simp [grow_size])) (by simp)) ?_
  rintro e w1 ⟨rfl, hy⟩; obtain ⟨d5, rfl⟩ := hy.grown; clear hy
  go_wp2_with fail
  refine Calls.mono (among_ op _ _ [29] _ (sl6 _ _ (by simp [grow_size])) (by simp)) ?_
  rintro e w1 ⟨rfl, hy⟩; obtain ⟨d6, rfl⟩ := hy.grown; clear hy
  go_wp2
  go_ret
  exact ⟨rfl, (by repeat (first | (with_reducible exact Ext.refl _) | (with_reducible refine Ext.undrew ?_) | (with_reducible refine Ext.grow ?_ _) | (with_reducible refine Ext.drew ?_) | (with_reducible refine Ext.drewN ?_ _) | (with_reducible refine Ext.alloc ?_ _) | (with_reducible assumption) | ((with_reducible refine Ext.setCell ?_ ?_ _); rotate_left; (first | exact Nat.le_refl _ | ((try dsimp only); (try simp only [World.size_alloc, grow_size, World.size_setCell]); omega)))))⟩

set_option maxRecDepth 100000 in
set_option maxHeartbeats 2000000 in
theorem kinds1 (op : Int) (w : World) (hj : kd op = 1) :
    Calls Try.prog 86 #[.int .i64 op] w fun e w' => e = .returned (.string ⟨#[45, 45, 45]⟩) ∧ Ext w w' := by
  have m0 : inL op [0, 24] = true := by
    revert hj
    unfold kd inL
    by_cases h0 : op ∈ [0, 24] <;> simp [h0]
    all_goals (repeat' split)
    all_goals simp_all
  clear hj
  go_enter Try.func86, Try.ntmps86
  go_wp2_with fail
  refine Calls.mono (among_ op _ _ [0, 24] _ (sl0 _ _ (by simp [grow_size])) (by simp)) ?_
  rintro e w1 ⟨rfl, hy⟩; obtain ⟨d0, rfl⟩ := hy.grown; clear hy
  go_wp2
  go_ret
  exact ⟨rfl, (by repeat (first | (with_reducible exact Ext.refl _) | (with_reducible refine Ext.undrew ?_) | (with_reducible refine Ext.grow ?_ _) | (with_reducible refine Ext.drew ?_) | (with_reducible refine Ext.drewN ?_ _) | (with_reducible refine Ext.alloc ?_ _) | (with_reducible assumption) | ((with_reducible refine Ext.setCell ?_ ?_ _); rotate_left; (first | exact Nat.le_refl _ | ((try dsimp only); (try simp only [World.size_alloc, grow_size, World.size_setCell]); omega)))))⟩

set_option maxRecDepth 100000 in
set_option maxHeartbeats 2000000 in
theorem kinds2 (op : Int) (w : World) (hj : kd op = 2) :
    Calls Try.prog 86 #[.int .i64 op] w fun e w' => e = .returned (.string ⟨#[114, 119, 118]⟩) ∧ Ext w w' := by
  have m0 : inL op [0, 24] = false := by
    revert hj
    unfold kd inL
    by_cases h0 : op ∈ [0, 24] <;> simp [h0]
    all_goals (repeat' split)
    all_goals simp_all
  have m1 : inL op [1, 10] = true := by
    revert hj
    unfold kd inL
    by_cases h1 : op ∈ [1, 10] <;> simp [h1]
    all_goals (repeat' split)
    all_goals simp_all
  clear hj
  go_enter Try.func86, Try.ntmps86
  go_wp2_with fail
  refine Calls.mono (among_ op _ _ [0, 24] _ (sl0 _ _ (by simp [grow_size])) (by simp)) ?_
  rintro e w1 ⟨rfl, hy⟩; obtain ⟨d0, rfl⟩ := hy.grown; clear hy
  go_wp2_with fail
  refine Calls.mono (among_ op _ _ [1, 10] _ (sl1 _ _ (by simp [grow_size])) (by simp)) ?_
  rintro e w1 ⟨rfl, hy⟩; obtain ⟨d1, rfl⟩ := hy.grown; clear hy
  go_wp2
  go_ret
  exact ⟨rfl, (by repeat (first | (with_reducible exact Ext.refl _) | (with_reducible refine Ext.undrew ?_) | (with_reducible refine Ext.grow ?_ _) | (with_reducible refine Ext.drew ?_) | (with_reducible refine Ext.drewN ?_ _) | (with_reducible refine Ext.alloc ?_ _) | (with_reducible assumption) | ((with_reducible refine Ext.setCell ?_ ?_ _); rotate_left; (first | exact Nat.le_refl _ | ((try dsimp only); (try simp only [World.size_alloc, grow_size, World.size_setCell]); omega)))))⟩

set_option maxRecDepth 100000 in
set_option maxHeartbeats 2000000 in
theorem kinds3 (op : Int) (w : World) (hj : kd op = 3) :
    Calls Try.prog 86 #[.int .i64 op] w fun e w' => e = .returned (.string ⟨#[114, 114, 45]⟩) ∧ Ext w w' := by
  have m0 : inL op [0, 24] = false := by
    revert hj
    unfold kd inL
    by_cases h0 : op ∈ [0, 24] <;> simp [h0]
    all_goals (repeat' split)
    all_goals simp_all
  have m1 : inL op [1, 10] = false := by
    revert hj
    unfold kd inL
    by_cases h1 : op ∈ [1, 10] <;> simp [h1]
    all_goals (repeat' split)
    all_goals simp_all
  have m2 : inL op [2, 22, 23, 25, 26, 27, 28] = true := by
    revert hj
    unfold kd inL
    by_cases h2 : op ∈ [2, 22, 23, 25, 26, 27, 28] <;> simp [h2]
    all_goals (repeat' split)
    all_goals simp_all
  clear hj
  go_enter Try.func86, Try.ntmps86
  go_wp2_with fail
  refine Calls.mono (among_ op _ _ [0, 24] _ (sl0 _ _ (by simp [grow_size])) (by simp)) ?_
  rintro e w1 ⟨rfl, hy⟩; obtain ⟨d0, rfl⟩ := hy.grown; clear hy
  go_wp2_with fail
  refine Calls.mono (among_ op _ _ [1, 10] _ (sl1 _ _ (by simp [grow_size])) (by simp)) ?_
  rintro e w1 ⟨rfl, hy⟩; obtain ⟨d1, rfl⟩ := hy.grown; clear hy
  go_wp2_with fail
  refine Calls.mono (among_ op _ _ [2, 22, 23, 25, 26, 27, 28] _ (sl2 _ _ (by simp [grow_size])) (by simp)) ?_
  rintro e w1 ⟨rfl, hy⟩; obtain ⟨d2, rfl⟩ := hy.grown; clear hy
  go_wp2
  go_ret
  exact ⟨rfl, (by repeat (first | (with_reducible exact Ext.refl _) | (with_reducible refine Ext.undrew ?_) | (with_reducible refine Ext.grow ?_ _) | (with_reducible refine Ext.drew ?_) | (with_reducible refine Ext.drewN ?_ _) | (with_reducible refine Ext.alloc ?_ _) | (with_reducible assumption) | ((with_reducible refine Ext.setCell ?_ ?_ _); rotate_left; (first | exact Nat.le_refl _ | ((try dsimp only); (try simp only [World.size_alloc, grow_size, World.size_setCell]); omega)))))⟩

set_option maxRecDepth 100000 in
set_option maxHeartbeats 2000000 in
theorem kinds4 (op : Int) (w : World) (hj : kd op = 4) :
    Calls Try.prog 86 #[.int .i64 op] w fun e w' => e = .returned (.string ⟨#[114, 114, 114]⟩) ∧ Ext w w' := by
  have m0 : inL op [0, 24] = false := by
    revert hj
    unfold kd inL
    by_cases h0 : op ∈ [0, 24] <;> simp [h0]
    all_goals (repeat' split)
    all_goals simp_all
  have m1 : inL op [1, 10] = false := by
    revert hj
    unfold kd inL
    by_cases h1 : op ∈ [1, 10] <;> simp [h1]
    all_goals (repeat' split)
    all_goals simp_all
  have m2 : inL op [2, 22, 23, 25, 26, 27, 28] = false := by
    revert hj
    unfold kd inL
    by_cases h2 : op ∈ [2, 22, 23, 25, 26, 27, 28] <;> simp [h2]
    all_goals (repeat' split)
    all_goals simp_all
  have m3 : inL op [3, 4, 5, 6, 7, 8, 17, 18, 20, 21] = true := by
    revert hj
    unfold kd inL
    by_cases h3 : op ∈ [3, 4, 5, 6, 7, 8, 17, 18, 20, 21] <;> simp [h3]
    all_goals (repeat' split)
    all_goals simp_all
  clear hj
  go_enter Try.func86, Try.ntmps86
  go_wp2_with fail
  refine Calls.mono (among_ op _ _ [0, 24] _ (sl0 _ _ (by simp [grow_size])) (by simp)) ?_
  rintro e w1 ⟨rfl, hy⟩; obtain ⟨d0, rfl⟩ := hy.grown; clear hy
  go_wp2_with fail
  refine Calls.mono (among_ op _ _ [1, 10] _ (sl1 _ _ (by simp [grow_size])) (by simp)) ?_
  rintro e w1 ⟨rfl, hy⟩; obtain ⟨d1, rfl⟩ := hy.grown; clear hy
  go_wp2_with fail
  refine Calls.mono (among_ op _ _ [2, 22, 23, 25, 26, 27, 28] _ (sl2 _ _ (by simp [grow_size])) (by simp)) ?_
  rintro e w1 ⟨rfl, hy⟩; obtain ⟨d2, rfl⟩ := hy.grown; clear hy
  go_wp2_with fail
  refine Calls.mono (among_ op _ _ [3, 4, 5, 6, 7, 8, 17, 18, 20, 21] _ (sl3 _ _ (by simp [grow_size])) (by simp)) ?_
  rintro e w1 ⟨rfl, hy⟩; obtain ⟨d3, rfl⟩ := hy.grown; clear hy
  go_wp2
  go_ret
  exact ⟨rfl, (by repeat (first | (with_reducible exact Ext.refl _) | (with_reducible refine Ext.undrew ?_) | (with_reducible refine Ext.grow ?_ _) | (with_reducible refine Ext.drew ?_) | (with_reducible refine Ext.drewN ?_ _) | (with_reducible refine Ext.alloc ?_ _) | (with_reducible assumption) | ((with_reducible refine Ext.setCell ?_ ?_ _); rotate_left; (first | exact Nat.le_refl _ | ((try dsimp only); (try simp only [World.size_alloc, grow_size, World.size_setCell]); omega)))))⟩

set_option maxRecDepth 100000 in
set_option maxHeartbeats 2000000 in
theorem kinds5 (op : Int) (w : World) (hj : kd op = 5) :
    Calls Try.prog 86 #[.int .i64 op] w fun e w' => e = .returned (.string ⟨#[45, 119, 118]⟩) ∧ Ext w w' := by
  have m0 : inL op [0, 24] = false := by
    revert hj
    unfold kd inL
    by_cases h0 : op ∈ [0, 24] <;> simp [h0]
    all_goals (repeat' split)
    all_goals simp_all
  have m1 : inL op [1, 10] = false := by
    revert hj
    unfold kd inL
    by_cases h1 : op ∈ [1, 10] <;> simp [h1]
    all_goals (repeat' split)
    all_goals simp_all
  have m2 : inL op [2, 22, 23, 25, 26, 27, 28] = false := by
    revert hj
    unfold kd inL
    by_cases h2 : op ∈ [2, 22, 23, 25, 26, 27, 28] <;> simp [h2]
    all_goals (repeat' split)
    all_goals simp_all
  have m3 : inL op [3, 4, 5, 6, 7, 8, 17, 18, 20, 21] = false := by
    revert hj
    unfold kd inL
    by_cases h3 : op ∈ [3, 4, 5, 6, 7, 8, 17, 18, 20, 21] <;> simp [h3]
    all_goals (repeat' split)
    all_goals simp_all
  have m4 : inL op [9] = true := by
    revert hj
    unfold kd inL
    by_cases h4 : op ∈ [9] <;> simp [h4]
    all_goals (repeat' split)
    all_goals simp_all
  clear hj
  go_enter Try.func86, Try.ntmps86
  go_wp2_with fail
  refine Calls.mono (among_ op _ _ [0, 24] _ (sl0 _ _ (by simp [grow_size])) (by simp)) ?_
  rintro e w1 ⟨rfl, hy⟩; obtain ⟨d0, rfl⟩ := hy.grown; clear hy
  go_wp2_with fail
  refine Calls.mono (among_ op _ _ [1, 10] _ (sl1 _ _ (by simp [grow_size])) (by simp)) ?_
  rintro e w1 ⟨rfl, hy⟩; obtain ⟨d1, rfl⟩ := hy.grown; clear hy
  go_wp2_with fail
  refine Calls.mono (among_ op _ _ [2, 22, 23, 25, 26, 27, 28] _ (sl2 _ _ (by simp [grow_size])) (by simp)) ?_
  rintro e w1 ⟨rfl, hy⟩; obtain ⟨d2, rfl⟩ := hy.grown; clear hy
  go_wp2_with fail
  refine Calls.mono (among_ op _ _ [3, 4, 5, 6, 7, 8, 17, 18, 20, 21] _ (sl3 _ _ (by simp [grow_size])) (by simp)) ?_
  rintro e w1 ⟨rfl, hy⟩; obtain ⟨d3, rfl⟩ := hy.grown; clear hy
  go_wp2_with fail
  refine Calls.mono (among_ op _ _ [9] _ (sl4 _ _ (by simp [grow_size])) (by simp)) ?_
  rintro e w1 ⟨rfl, hy⟩; obtain ⟨d4, rfl⟩ := hy.grown; clear hy
  go_wp2
  go_ret
  exact ⟨rfl, (by repeat (first | (with_reducible exact Ext.refl _) | (with_reducible refine Ext.undrew ?_) | (with_reducible refine Ext.grow ?_ _) | (with_reducible refine Ext.drew ?_) | (with_reducible refine Ext.drewN ?_ _) | (with_reducible refine Ext.alloc ?_ _) | (with_reducible assumption) | ((with_reducible refine Ext.setCell ?_ ?_ _); rotate_left; (first | exact Nat.le_refl _ | ((try dsimp only); (try simp only [World.size_alloc, grow_size, World.size_setCell]); omega)))))⟩

set_option maxRecDepth 100000 in
set_option maxHeartbeats 2000000 in
theorem kinds6 (op : Int) (w : World) (hj : kd op = 6) :
    Calls Try.prog 86 #[.int .i64 op] w fun e w' => e = .returned (.string ⟨#[114, 114, 105]⟩) ∧ Ext w w' := by
  have m0 : inL op [0, 24] = false := by
    revert hj
    unfold kd inL
    by_cases h0 : op ∈ [0, 24] <;> simp [h0]
    all_goals (repeat' split)
    all_goals simp_all
  have m1 : inL op [1, 10] = false := by
    revert hj
    unfold kd inL
    by_cases h1 : op ∈ [1, 10] <;> simp [h1]
    all_goals (repeat' split)
    all_goals simp_all
  have m2 : inL op [2, 22, 23, 25, 26, 27, 28] = false := by
    revert hj
    unfold kd inL
    by_cases h2 : op ∈ [2, 22, 23, 25, 26, 27, 28] <;> simp [h2]
    all_goals (repeat' split)
    all_goals simp_all
  have m3 : inL op [3, 4, 5, 6, 7, 8, 17, 18, 20, 21] = false := by
    revert hj
    unfold kd inL
    by_cases h3 : op ∈ [3, 4, 5, 6, 7, 8, 17, 18, 20, 21] <;> simp [h3]
    all_goals (repeat' split)
    all_goals simp_all
  have m4 : inL op [9] = false := by
    revert hj
    unfold kd inL
    by_cases h4 : op ∈ [9] <;> simp [h4]
    all_goals (repeat' split)
    all_goals simp_all
  have m5 : inL op [11, 12, 13, 14, 15, 16, 19] = true := by
    revert hj
    unfold kd inL
    by_cases h5 : op ∈ [11, 12, 13, 14, 15, 16, 19] <;> simp [h5]
    all_goals (repeat' split)
    all_goals simp_all
  clear hj
  go_enter Try.func86, Try.ntmps86
  go_wp2_with fail
  refine Calls.mono (among_ op _ _ [0, 24] _ (sl0 _ _ (by simp [grow_size])) (by simp)) ?_
  rintro e w1 ⟨rfl, hy⟩; obtain ⟨d0, rfl⟩ := hy.grown; clear hy
  go_wp2_with fail
  refine Calls.mono (among_ op _ _ [1, 10] _ (sl1 _ _ (by simp [grow_size])) (by simp)) ?_
  rintro e w1 ⟨rfl, hy⟩; obtain ⟨d1, rfl⟩ := hy.grown; clear hy
  go_wp2_with fail
  refine Calls.mono (among_ op _ _ [2, 22, 23, 25, 26, 27, 28] _ (sl2 _ _ (by simp [grow_size])) (by simp)) ?_
  rintro e w1 ⟨rfl, hy⟩; obtain ⟨d2, rfl⟩ := hy.grown; clear hy
  go_wp2_with fail
  refine Calls.mono (among_ op _ _ [3, 4, 5, 6, 7, 8, 17, 18, 20, 21] _ (sl3 _ _ (by simp [grow_size])) (by simp)) ?_
  rintro e w1 ⟨rfl, hy⟩; obtain ⟨d3, rfl⟩ := hy.grown; clear hy
  go_wp2_with fail
  refine Calls.mono (among_ op _ _ [9] _ (sl4 _ _ (by simp [grow_size])) (by simp)) ?_
  rintro e w1 ⟨rfl, hy⟩; obtain ⟨d4, rfl⟩ := hy.grown; clear hy
  go_wp2_with fail
  refine Calls.mono (among_ op _ _ [11, 12, 13, 14, 15, 16, 19] _ (sl5 _ _ (by simp [grow_size])) (by simp)) ?_
  rintro e w1 ⟨rfl, hy⟩; obtain ⟨d5, rfl⟩ := hy.grown; clear hy
  go_wp2
  go_ret
  exact ⟨rfl, (by repeat (first | (with_reducible exact Ext.refl _) | (with_reducible refine Ext.undrew ?_) | (with_reducible refine Ext.grow ?_ _) | (with_reducible refine Ext.drew ?_) | (with_reducible refine Ext.drewN ?_ _) | (with_reducible refine Ext.alloc ?_ _) | (with_reducible assumption) | ((with_reducible refine Ext.setCell ?_ ?_ _); rotate_left; (first | exact Nat.le_refl _ | ((try dsimp only); (try simp only [World.size_alloc, grow_size, World.size_setCell]); omega)))))⟩

set_option maxRecDepth 100000 in
set_option maxHeartbeats 2000000 in
theorem kinds7 (op : Int) (w : World) (hj : kd op = 7) :
    Calls Try.prog 86 #[.int .i64 op] w fun e w' => e = .returned (.string ⟨#[105, 45, 45]⟩) ∧ Ext w w' := by
  have m0 : inL op [0, 24] = false := by
    revert hj
    unfold kd inL
    by_cases h0 : op ∈ [0, 24] <;> simp [h0]
    all_goals (repeat' split)
    all_goals simp_all
  have m1 : inL op [1, 10] = false := by
    revert hj
    unfold kd inL
    by_cases h1 : op ∈ [1, 10] <;> simp [h1]
    all_goals (repeat' split)
    all_goals simp_all
  have m2 : inL op [2, 22, 23, 25, 26, 27, 28] = false := by
    revert hj
    unfold kd inL
    by_cases h2 : op ∈ [2, 22, 23, 25, 26, 27, 28] <;> simp [h2]
    all_goals (repeat' split)
    all_goals simp_all
  have m3 : inL op [3, 4, 5, 6, 7, 8, 17, 18, 20, 21] = false := by
    revert hj
    unfold kd inL
    by_cases h3 : op ∈ [3, 4, 5, 6, 7, 8, 17, 18, 20, 21] <;> simp [h3]
    all_goals (repeat' split)
    all_goals simp_all
  have m4 : inL op [9] = false := by
    revert hj
    unfold kd inL
    by_cases h4 : op ∈ [9] <;> simp [h4]
    all_goals (repeat' split)
    all_goals simp_all
  have m5 : inL op [11, 12, 13, 14, 15, 16, 19] = false := by
    revert hj
    unfold kd inL
    by_cases h5 : op ∈ [11, 12, 13, 14, 15, 16, 19] <;> simp [h5]
    all_goals (repeat' split)
    all_goals simp_all
  have m6 : inL op [29] = true := by
    revert hj
    unfold kd inL
    by_cases h6 : op ∈ [29] <;> simp [h6]
    all_goals (repeat' split)
    all_goals simp_all
  clear hj
  go_enter Try.func86, Try.ntmps86
  go_wp2_with fail
  refine Calls.mono (among_ op _ _ [0, 24] _ (sl0 _ _ (by simp [grow_size])) (by simp)) ?_
  rintro e w1 ⟨rfl, hy⟩; obtain ⟨d0, rfl⟩ := hy.grown; clear hy
  go_wp2_with fail
  refine Calls.mono (among_ op _ _ [1, 10] _ (sl1 _ _ (by simp [grow_size])) (by simp)) ?_
  rintro e w1 ⟨rfl, hy⟩; obtain ⟨d1, rfl⟩ := hy.grown; clear hy
  go_wp2_with fail
  refine Calls.mono (among_ op _ _ [2, 22, 23, 25, 26, 27, 28] _ (sl2 _ _ (by simp [grow_size])) (by simp)) ?_
  rintro e w1 ⟨rfl, hy⟩; obtain ⟨d2, rfl⟩ := hy.grown; clear hy
  go_wp2_with fail
  refine Calls.mono (among_ op _ _ [3, 4, 5, 6, 7, 8, 17, 18, 20, 21] _ (sl3 _ _ (by simp [grow_size])) (by simp)) ?_
  rintro e w1 ⟨rfl, hy⟩; obtain ⟨d3, rfl⟩ := hy.grown; clear hy
  go_wp2_with fail
  refine Calls.mono (among_ op _ _ [9] _ (sl4 _ _ (by simp [grow_size])) (by simp)) ?_
  rintro e w1 ⟨rfl, hy⟩; obtain ⟨d4, rfl⟩ := hy.grown; clear hy
  go_wp2_with fail
  refine Calls.mono (among_ op _ _ [11, 12, 13, 14, 15, 16, 19] _ (sl5 _ _ (by simp [grow_size])) (by simp)) ?_
  rintro e w1 ⟨rfl, hy⟩; obtain ⟨d5, rfl⟩ := hy.grown; clear hy
  go_wp2_with fail
  refine Calls.mono (among_ op _ _ [29] _ (sl6 _ _ (by simp [grow_size])) (by simp)) ?_
  rintro e w1 ⟨rfl, hy⟩; obtain ⟨d6, rfl⟩ := hy.grown; clear hy
  go_wp2
  go_ret
  exact ⟨rfl, (by repeat (first | (with_reducible exact Ext.refl _) | (with_reducible refine Ext.undrew ?_) | (with_reducible refine Ext.grow ?_ _) | (with_reducible refine Ext.drew ?_) | (with_reducible refine Ext.drewN ?_ _) | (with_reducible refine Ext.alloc ?_ _) | (with_reducible assumption) | ((with_reducible refine Ext.setCell ?_ ?_ _); rotate_left; (first | exact Nat.le_refl _ | ((try dsimp only); (try simp only [World.size_alloc, grow_size, World.size_setCell]); omega)))))⟩

set_option maxRecDepth 100000 in
set_option maxHeartbeats 4000000 in
theorem rkinds (op : Int) (w : World) :
    Calls Try.prog 84 #[.int .i64 op] w fun e w' => e = .returned (.string (kstr (kd op))) ∧ w = w' := by
  go_enter Try.func84, Try.ntmps84
  go_wp2
  all_goals go_ret
  all_goals (refine ⟨?_, rfl⟩; simp_all [kd, kstr])

end Go.Proofs.Ytgldlkoohfclpaa

namespace Go.Proofs.Ytgldlkoohfclpaa
set_option maxRecDepth 100000
set_option linter.unusedSimpArgs false
set_option linter.unusedVariables false
open Go.RowKit


def hasV (lo hi n : Int) : Bool := decide (lo ≤ n) && decide (n ≤ hi)
def loOf (ch : Nat) : Int := if ch = 114 then 0 else if ch = 105 then 0 else if ch = 119 then -32768 else 0
def hiOf (ch : Nat) : Int := if ch = 114 then 7 else if ch = 105 then 255 else if ch = 119 then 32767 else 0
def chAt (s : ByteArray) (i : Nat) : Nat := (s.data.toList.getD i 0).toNat
theorem chAt_get {s : ByteArray} {i : Nat} (h : i < s.size) : (s[i]'h).toNat = chAt s i := by
  unfold chAt
  have h' : i < s.data.toList.length := by simpa using h
  rw [List.getD_eq_getElem?_getD, List.getElem?_eq_getElem h']
  rfl
def okAt (s : ByteArray) (v : Nat → Int) (i : Nat) : Bool := hasV (loOf (chAt s i)) (hiOf (chAt s i)) (v i)
def rightS (s : ByteArray) (v : Nat → Int) : Bool := (List.range s.size).all (okAt s v) && !decide (s.size = 0)
def v3 (a b c : Int) : Nat → Int := fun i => if i = 0 then a else if i = 1 then b else c
theorem fZ_has (n : Int) : hasV 0 0 n = fZ n := by unfold hasV fZ; rw [Bool.eq_iff_iff]; simp; omega
theorem all3 (s : ByteArray) (h : s.size = 3) (v : Nat → Int) : rightS s v = (okAt s v 0 && (okAt s v 1 && okAt s v 2)) := by
  unfold rightS
  rw [h]
  simp [List.range_succ, Bool.and_assoc]
theorem rightS_kstr (op a b c : Int) : rightS (kstr (kd op)) (v3 a b c) = rightI op a b c := by
  unfold rightI
  rcases kd_cases op with h | h | h | h | h | h | h | h <;> rw [h]
  · rfl
  · rw [all3 _ rfl]
    have e0 : chAt (kstr 1) 0 = 45 := by decide
    have e1 : chAt (kstr 1) 1 = 45 := by decide
    have e2 : chAt (kstr 1) 2 = 45 := by decide
    simp only [okAt, e0, e1, e2, kA, kB, kC]
    simp [loOf, hiOf, v3, fZ_has, fR, fI, fW, hasV, fZ]
    try (rw [Bool.eq_iff_iff]; simp; omega)
  · rw [all3 _ rfl]
    have e0 : chAt (kstr 2) 0 = 114 := by decide
    have e1 : chAt (kstr 2) 1 = 119 := by decide
    have e2 : chAt (kstr 2) 2 = 118 := by decide
    simp only [okAt, e0, e1, e2, kA, kB, kC]
    simp [loOf, hiOf, v3, fZ_has, fR, fI, fW, hasV, fZ]
    try (rw [Bool.eq_iff_iff]; simp; omega)
  · rw [all3 _ rfl]
    have e0 : chAt (kstr 3) 0 = 114 := by decide
    have e1 : chAt (kstr 3) 1 = 114 := by decide
    have e2 : chAt (kstr 3) 2 = 45 := by decide
    simp only [okAt, e0, e1, e2, kA, kB, kC]
    simp [loOf, hiOf, v3, fZ_has, fR, fI, fW, hasV, fZ]
    try (rw [Bool.eq_iff_iff]; simp; omega)
  · rw [all3 _ rfl]
    have e0 : chAt (kstr 4) 0 = 114 := by decide
    have e1 : chAt (kstr 4) 1 = 114 := by decide
    have e2 : chAt (kstr 4) 2 = 114 := by decide
    simp only [okAt, e0, e1, e2, kA, kB, kC]
    simp [loOf, hiOf, v3, fZ_has, fR, fI, fW, hasV, fZ]
    try (rw [Bool.eq_iff_iff]; simp; omega)
  · rw [all3 _ rfl]
    have e0 : chAt (kstr 5) 0 = 45 := by decide
    have e1 : chAt (kstr 5) 1 = 119 := by decide
    have e2 : chAt (kstr 5) 2 = 118 := by decide
    simp only [okAt, e0, e1, e2, kA, kB, kC]
    simp [loOf, hiOf, v3, fZ_has, fR, fI, fW, hasV, fZ]
    try (rw [Bool.eq_iff_iff]; simp; omega)
  · rw [all3 _ rfl]
    have e0 : chAt (kstr 6) 0 = 114 := by decide
    have e1 : chAt (kstr 6) 1 = 114 := by decide
    have e2 : chAt (kstr 6) 2 = 105 := by decide
    simp only [okAt, e0, e1, e2, kA, kB, kC]
    simp [loOf, hiOf, v3, fZ_has, fR, fI, fW, hasV, fZ]
    try (rw [Bool.eq_iff_iff]; simp; omega)
  · rw [all3 _ rfl]
    have e0 : chAt (kstr 7) 0 = 105 := by decide
    have e1 : chAt (kstr 7) 1 = 45 := by decide
    have e2 : chAt (kstr 7) 2 = 45 := by decide
    simp only [okAt, e0, e1, e2, kA, kB, kC]
    simp [loOf, hiOf, v3, fZ_has, fR, fI, fW, hasV, fZ]
    try (rw [Bool.eq_iff_iff]; simp; omega)
theorem kstr_ascii : ∀ j : Fin 8, ∀ i : Fin 3, chAt (kstr j.val) i.val < 128 := by decide
theorem kstr_size : ∀ j : Fin 8, (kstr j.val).size = if j.val = 0 then 0 else 3 := by decide
theorem kstr_w : ∀ j : Fin 8, ∀ i : Fin 3, (chAt (kstr j.val) i.val = 119 → i.val = 1) ∧ (chAt (kstr j.val) i.val = 118 → i.val = 2) := by decide
theorem kd_lt (op : Int) : kd op < 8 := by rcases kd_cases op with h | h | h | h | h | h | h | h <;> omega
theorem turn_iter (w : World) (k : Nat) (s : ByteArray) (i : Nat) : w.iterAt k s i = turn w k (.stringIter s i) := rfl
theorem enterOf' {P : Program} {f : FuncId} {fn : Func} (hf : P.funcs[f]? = some fn) (hname : (fn.name == "runtime.NumGoroutine") = false) (hc : fn.body.isSome = true) (args : Array Value) (w : World) :
    Sem.run P (callFunc f args) w = .ok (.enter f args) w := by
  have h1 : ¬ fn.name = "runtime.NumGoroutine" := by simpa using hname
  obtain ⟨c, hb⟩ := Option.isSome_iff_exists.1 hc
  simp [callFunc, hf, h1, hb, Sem.run]
set_option maxHeartbeats 800000 in
theorem has_ (lo hi n : Int) (w : World) :
    Calls Try.prog 91 #[.agg #[.int .i64 lo, .int .i64 hi], .int .i64 n] w fun e w' => e = .returned (.bool (hasV lo hi n)) ∧ Ext w w' := by
  unfold hasV
  by_cases h1 : lo ≤ n <;> by_cases h2 : n ≤ hi
  all_goals simp only [h1, h2, decide_true, decide_false, Bool.and_true, Bool.true_and, Bool.and_false, Bool.false_and]
  all_goals (go_enter Try.func91, Try.ntmps91; go_wp2)
  all_goals go_ret
  all_goals exact ⟨rfl, (by repeat (first | (with_reducible exact Ext.refl _) | (with_reducible refine Ext.undrew ?_) | (with_reducible refine Ext.grow ?_ _) | (with_reducible refine Ext.drew ?_) | (with_reducible refine Ext.drewN ?_ _) | (with_reducible refine Ext.alloc ?_ _) | (with_reducible assumption) | ((with_reducible refine Ext.setCell ?_ ?_ _); rotate_left; (first | exact Nat.le_refl _ | ((try dsimp only); (try simp only [World.size_alloc, grow_size, World.size_setCell]); omega)))))⟩

set_option maxHeartbeats 800000 in
theorem of_ (ch : Nat) (w : World) :
    Calls Try.prog 90 #[.int .i32 ch] w fun e w' => e = .returned (.func (.func 91) #[.agg #[.int .i64 (loOf ch), .int .i64 (hiOf ch)]] #[]) ∧ w = w' := by
  by_cases h1 : ch = 114
  · subst h1
    go_enter Try.func90, Try.ntmps90
    go_wp2
    go_ret
    exact ⟨rfl, rfl⟩
  · by_cases h2 : ch = 105
    · subst h2
      go_enter Try.func90, Try.ntmps90
      go_wp2
      go_ret
      exact ⟨rfl, rfl⟩
    · by_cases h3 : ch = 119
      · subst h3
        go_enter Try.func90, Try.ntmps90
        go_wp2
        go_ret
        exact ⟨rfl, rfl⟩
      · have e : loOf ch = 0 ∧ hiOf ch = 0 := by unfold loOf hiOf; simp [h1, h2, h3]
        rw [e.1, e.2]
        have e1 : ((ch : Int) == 114) = false := by simp; omega
        have e2 : ((ch : Int) == 105) = false := by simp; omega
        have e3 : ((ch : Int) == 119) = false := by simp; omega
        clear e h1 h2 h3
        go_enter Try.func90, Try.ntmps90
        go_wp2
        go_ret
        exact ⟨rfl, rfl⟩

set_option maxHeartbeats 800000 in
theorem kinds_ (op : Int) (w : World) :
    Calls Try.prog 86 #[.int .i64 op] w fun e w' => e = .returned (.string (kstr (kd op))) ∧ Ext w w' := by
  rcases kd_cases op with h | h | h | h | h | h | h | h
  · rw [h]; exact kinds0 op w h
  · rw [h]; exact kinds1 op w h
  · rw [h]; exact kinds2 op w h
  · rw [h]; exact kinds3 op w h
  · rw [h]; exact kinds4 op w h
  · rw [h]; exact kinds5 op w h
  · rw [h]; exact kinds6 op w h
  · rw [h]; exact kinds7 op w h

end Go.Proofs.Ytgldlkoohfclpaa

namespace Go.Proofs.Ytgldlkoohfclpaa
set_option maxRecDepth 100000
set_option linter.unusedSimpArgs false
set_option linter.unusedVariables false
open Go.RowKit

set_option maxRecDepth 100000 in
set_option maxHeartbeats 4000000 in
theorem right_ (op a b c : Int) (w : World) :
    Calls Try.prog 87 #[.agg #[.int .i64 op, .int .i64 a, .int .i64 b, .int .i64 c]] w fun e w' => e = .returned (.bool (rightI op a b c)) ∧ Ext w w' := by
  have hR := rightS_kstr op a b c
  have hs3 : (kstr (kd op)).size ≤ 3 := by have := kstr_size ⟨kd op, kd_lt op⟩; simp only at this; split at this <;> omega
  have has : ∀ i, i < 3 → chAt (kstr (kd op)) i < 128 := fun i hi => kstr_ascii ⟨kd op, kd_lt op⟩ ⟨i, hi⟩
  have hfn : ∀ args w', Sem.run Try.prog (callFunc 91 args) w' = .ok (.enter 91 args) w' := fun args w' => enterOf' Try.func91 (by kernel_rfl) (by kernel_rfl) args w'
  have hK := fun w => kinds_ op w
  generalize kstr (kd op) = s at hR hs3 has hK
  rw [← hR]
  have HAS := hid has
  have HK := hid hK
  clear hR has hK
  go_enter Try.func87, Try.ntmps87
  go_wp2_with (go_at_call 86; refine (HK.out _).mono ?_; rintro e w1 ⟨rfl, hy⟩; obtain ⟨d, rfl⟩ := hy.grown; clear hy)
  have f1 : Hid (Ext w (Go.Proofs.Ytgldlkoohfclpaa.grow ((w.alloc (.cells #[.int .i64 op, .int .i64 a, .int .i64 b, .int .i64 c] 85)).alloc (.cells #[.int .i64 a, .int .i64 b, .int .i64 c] 116)) d)) := hid (by repeat (first | (with_reducible exact Ext.refl _) | (with_reducible refine Ext.undrew ?_) | (with_reducible refine Ext.grow ?_ _) | (with_reducible refine Ext.drew ?_) | (with_reducible refine Ext.drewN ?_ _) | (with_reducible refine Ext.alloc ?_ _) | (with_reducible assumption) | ((with_reducible refine Ext.setCell ?_ ?_ _); rotate_left; (first | exact Nat.le_refl _ | ((try dsimp only); (try simp only [World.size_alloc, grow_size, World.size_setCell]); omega)))))
  have f3 : ∀ i, i < 3 → (Go.Proofs.Ytgldlkoohfclpaa.grow ((w.alloc (.cells #[.int .i64 op, .int .i64 a, .int .i64 b, .int .i64 c] 85)).alloc (.cells #[.int .i64 a, .int .i64 b, .int .i64 c] 116)) d).cell? ⟨w.heap.size + 1, i, none⟩ = some (.int .i64 (v3 a b c i)) := fun i hi => by
    match i, hi with
    | 0, _ => simp [go_sem, v3]
    | 1, _ => simp [go_sem, v3]
    | 2, _ => simp [go_sem, v3]
  have f4 : w.heap.size + 1 + 1 + d.n = (Go.Proofs.Ytgldlkoohfclpaa.grow ((w.alloc (.cells #[.int .i64 op, .int .i64 a, .int .i64 b, .int .i64 c] 85)).alloc (.cells #[.int .i64 a, .int .i64 b, .int .i64 c] 116)) d).heap.size := by simp [grow_size]
  rw [f4]
  generalize (Go.Proofs.Ytgldlkoohfclpaa.grow ((w.alloc (.cells #[.int .i64 op, .int .i64 a, .int .i64 b, .int .i64 c] 85)).alloc (.cells #[.int .i64 a, .int .i64 b, .int .i64 c] 116)) d) = W at f1 f3 f4 ⊢
  have F3 := hid f3
  have hq : w.heap.size + 1 < W.heap.size := by omega
  clear f3 f4
  go_loopw [] (fun wr => ∃ i : Nat, i ≤ s.size ∧ Hid (wr.heap[W.heap.size]? = some (.stringIter s i)) ∧ Hid (∀ j, j < i → okAt s (v3 a b c) j = true) ∧ Hid (Ext W wr)) (fun wr => s.size - wr.iterPos W.heap.size)
  case atStart => exact ⟨0, Nat.zero_le _, hid (World.iter_heap _ _ _), hid fun j hj => absurd hj (by omega), hid (Ext.alloc (Ext.refl W) _)⟩
  case round =>
    obtain ⟨i, hi, hit, hall, hx⟩ := hrel
    by_cases hlt : i < s.size
    · have hi3 : i < 3 := by omega
      have ha := HAS.out i hi3
      have hch := chAt_get hlt
      have hc := (hx.out.cells (w.heap.size + 1) i hq).trans (F3.out i hi3)
      have hs := hx.out.size
      have hqr : w.heap.size + 1 < wr.heap.size := by omega
      have hqn : ¬ w.heap.size + 1 = W.heap.size := by omega
      have HI0 : (0 : Int) ≤ (i : Int) := by omega
      have HI1 : (i : Int) < 3 := by omega
      have hwt : Hid ((wr.iterAt W.heap.size s (i + 1)).heap[W.heap.size]? = some (.stringIter s (i + 1))) := hid (Lib.iterAt_heap _ _ _ _ _ hit.out)
      have hxt : Hid (Ext W (wr.iterAt W.heap.size s (i + 1))) := hid (Ext.turn hx.out (Nat.le_refl _) _)
      have hct := (turn_cell wr W.heap.size (.stringIter s (i + 1)) (w.heap.size + 1) i hqn).trans hc
      have hst : (wr.iterAt W.heap.size s (i + 1)).heap.size = wr.heap.size := turn_size _ _ _
      rw [← turn_iter] at hct
      have hnx := fun ty => Lib.run_next_ascii_at (P := Try.prog) wr W.heap.size s i ty hit.out hlt (by rw [hch]; exact ha)
      rw [hch] at hnx
      have HNX := hid hnx
      clear hnx hch hc hqn
      generalize wr.iterAt W.heap.size s (i + 1) = wt at hwt hxt hct hst HNX
      have hqt : w.heap.size + 1 < wt.heap.size := by omega
      have hkt : W.heap.size < wt.heap.size := (Array.getElem?_eq_some_iff.1 hwt.out).1
      cases hB : okAt s (v3 a b c) i with
      | true =>
        have HB := hid hB
        have HALL := hid (upto_snoc hall.out hB)
        clear hB hall hst hs hqr
        go_wp2
        rw [HNX.out]
        go_wp2_with (first | (go_at_call 90; refine Calls.mono (of_ (chAt s i) _) ?_; rintro e w1 ⟨rfl, rfl⟩) | (refine Calls.mono (has_ (loOf (chAt s i)) (hiOf (chAt s i)) (v3 a b c i) _) ?_; rw [show hasV (loOf (chAt s i)) (hiOf (chAt s i)) (v3 a b c i) = okAt s (v3 a b c) i from rfl, HB.out]; rintro e w1 ⟨rfl, hy⟩; obtain ⟨d, rfl⟩ := hy.grown; clear hy))
        go_roundw
        case rel => exact ⟨i + 1, by omega, hid ((grow_old wt d _ hkt).trans hwt.out), HALL, hid (Ext.trans hxt.out (by repeat (first | (with_reducible exact Ext.refl _) | (with_reducible refine Ext.undrew ?_) | (with_reducible refine Ext.grow ?_ _) | (with_reducible refine Ext.drew ?_) | (with_reducible refine Ext.drewN ?_ _) | (with_reducible refine Ext.alloc ?_ _) | (with_reducible assumption) | ((with_reducible refine Ext.setCell ?_ ?_ _); rotate_left; (first | exact Nat.le_refl _ | ((try dsimp only); (try simp only [World.size_alloc, grow_size, World.size_setCell]); omega))))))⟩
        case measure =>
          have e1 : wr.iterPos W.heap.size = i := by simp [World.iterPos, hit.out]
          rw [e1]
          simp only [World.iterPos]
          rw [grow_old wt d _ hkt, hwt.out]
          simp only
          omega
      | false =>
        have HB := hid hB
        have hno : rightS s (v3 a b c) = false := by unfold rightS; rw [all_range_false hlt hB]; rfl
        have HNO := hid hno
        clear hB hall hst hs hqr hno
        go_wp2
        rw [HNX.out]
        go_wp2_with (first | (go_at_call 90; refine Calls.mono (of_ (chAt s i) _) ?_; rintro e w1 ⟨rfl, rfl⟩) | (refine Calls.mono (has_ (loOf (chAt s i)) (hiOf (chAt s i)) (v3 a b c i) _) ?_; rw [show hasV (loOf (chAt s i)) (hiOf (chAt s i)) (v3 a b c i) = okAt s (v3 a b c) i from rfl, HB.out]; rintro e w1 ⟨rfl, hy⟩; obtain ⟨d, rfl⟩ := hy.grown; clear hy))
        go_ret
        exact ⟨by rw [HNO.out]; rfl, Ext.trans f1.out (Ext.trans hxt.out (by repeat (first | (with_reducible exact Ext.refl _) | (with_reducible refine Ext.undrew ?_) | (with_reducible refine Ext.grow ?_ _) | (with_reducible refine Ext.drew ?_) | (with_reducible refine Ext.drewN ?_ _) | (with_reducible refine Ext.alloc ?_ _) | (with_reducible assumption) | ((with_reducible refine Ext.setCell ?_ ?_ _); rotate_left; (first | exact Nat.le_refl _ | ((try dsimp only); (try simp only [World.size_alloc, grow_size, World.size_setCell]); omega))))))⟩
    · have hi' : i = s.size := by omega
      subst hi'
      have hall' := all_range_true hall.out
      have hyes : rightS s (v3 a b c) = !decide (s.size = 0) := by unfold rightS; rw [hall']; rfl
      have HY := hid hyes
      have HNX := hid fun ty => Lib.run_next_end_at (P := Try.prog) wr W.heap.size s s.size ty hit.out (by omega)
      have hemp : (!s.toList.isEmpty) = !decide (s.size = 0) := by
        rw [ByteArray.toList_eq]
        by_cases h0 : s.size = 0
        · have e : s.data.toList = [] := by
            apply List.eq_nil_of_length_eq_zero
            simpa using h0
          rw [e]
          simp [h0]
        · have e : ¬ s.data.toList = [] := fun e => h0 (by have := congrArg List.length e; simpa using this)
          simp only [h0, decide_false, Bool.not_false, Bool.not_eq_true', List.isEmpty_eq_false_iff]
          exact e
      have HE := hid hemp
      clear hall' hall hyes hemp
      go_wp2
      rw [HNX.out]
      go_wp2
      go_ret
      exact ⟨by rw [HY.out, ← HE.out]; rfl, Ext.trans f1.out (Ext.trans hx.out (by repeat (first | (with_reducible exact Ext.refl _) | (with_reducible refine Ext.undrew ?_) | (with_reducible refine Ext.grow ?_ _) | (with_reducible refine Ext.drew ?_) | (with_reducible refine Ext.drewN ?_ _) | (with_reducible refine Ext.alloc ?_ _) | (with_reducible assumption) | ((with_reducible refine Ext.setCell ?_ ?_ _); rotate_left; (first | exact Nat.le_refl _ | ((try dsimp only); (try simp only [World.size_alloc, grow_size, World.size_setCell]); omega))))))⟩

end Go.Proofs.Ytgldlkoohfclpaa

namespace Go.Proofs.Ytgldlkoohfclpaa
set_option maxRecDepth 100000
set_option linter.unusedSimpArgs false
set_option linter.unusedVariables false
open Go.RowKit


def sgn16 (n : Int) : Int := if 32768 ≤ n then n - 65536 else n
theorem or16_all : ∀ x : Fin 256, ∀ y : Fin 256, bits .or .i16 (IntKind.i16.wrap ((x.val : Int) * 256)) (y.val : Int) = sgn16 ((x.val : Int) * 256 + (y.val : Int)) := by decide +kernel
theorem or16 {x y : Int} (hx : 0 ≤ x ∧ x ≤ 255) (hy : 0 ≤ y ∧ y ≤ 255) : bits .or .i16 (IntKind.i16.wrap (x * 256)) y = sgn16 (x * 256 + y) := by
  have := or16_all ⟨x.toNat, by omega⟩ ⟨y.toNat, by omega⟩
  simpa [show ((x.toNat : Nat) : Int) = x by omega, show ((y.toNat : Nat) : Int) = y by omega] using this
def gB (op x2 x3 : Int) : Int := if kd op = 2 ∨ kd op = 5 then sgn16 (x2 * 256 + x3) else x2
def gC (op x3 : Int) : Int := if kd op = 2 ∨ kd op = 5 then 0 else x3
def v4 (x0 x1 x2 x3 : Int) : Nat → Int := fun i => if i = 0 then x0 else if i = 1 then x1 else if i = 2 then x2 else x3
/-- A part, out of the bytes. -/
def getP (s : ByteArray) (B : Nat → Int) (j : Nat) : Int := if chAt s j = 119 then sgn16 (B (j + 1) * 256 + B (j + 2)) else if chAt s j = 118 then 0 else B (j + 1)
def partV (s : ByteArray) (B : Nat → Int) (i j : Nat) : Int := if j < i then getP s B j else 0
theorem partV_kd {x0 x1 x2 x3 : Int} (h : ¬ kd x0 = 0) : partV (kstr (kd x0)) (v4 x0 x1 x2 x3) (kstr (kd x0)).size 0 = x1 ∧ partV (kstr (kd x0)) (v4 x0 x1 x2 x3) (kstr (kd x0)).size 1 = gB x0 x2 x3 ∧ partV (kstr (kd x0)) (v4 x0 x1 x2 x3) (kstr (kd x0)).size 2 = gC x0 x3 := by
  unfold gB gC
  rcases kd_cases x0 with hk | hk | hk | hk | hk | hk | hk | hk <;> rw [hk] at h ⊢
  · exact absurd rfl h
  · have e0 : chAt (kstr 1) 0 = 45 := by decide
    have e1 : chAt (kstr 1) 1 = 45 := by decide
    have e2 : chAt (kstr 1) 2 = 45 := by decide
    have es : (kstr 1).size = 3 := by decide
    rw [es]
    simp [partV, getP, e0, e1, e2, v4]
  · have e0 : chAt (kstr 2) 0 = 114 := by decide
    have e1 : chAt (kstr 2) 1 = 119 := by decide
    have e2 : chAt (kstr 2) 2 = 118 := by decide
    have es : (kstr 2).size = 3 := by decide
    rw [es]
    simp [partV, getP, e0, e1, e2, v4]
  · have e0 : chAt (kstr 3) 0 = 114 := by decide
    have e1 : chAt (kstr 3) 1 = 114 := by decide
    have e2 : chAt (kstr 3) 2 = 45 := by decide
    have es : (kstr 3).size = 3 := by decide
    rw [es]
    simp [partV, getP, e0, e1, e2, v4]
  · have e0 : chAt (kstr 4) 0 = 114 := by decide
    have e1 : chAt (kstr 4) 1 = 114 := by decide
    have e2 : chAt (kstr 4) 2 = 114 := by decide
    have es : (kstr 4).size = 3 := by decide
    rw [es]
    simp [partV, getP, e0, e1, e2, v4]
  · have e0 : chAt (kstr 5) 0 = 45 := by decide
    have e1 : chAt (kstr 5) 1 = 119 := by decide
    have e2 : chAt (kstr 5) 2 = 118 := by decide
    have es : (kstr 5).size = 3 := by decide
    rw [es]
    simp [partV, getP, e0, e1, e2, v4]
  · have e0 : chAt (kstr 6) 0 = 114 := by decide
    have e1 : chAt (kstr 6) 1 = 114 := by decide
    have e2 : chAt (kstr 6) 2 = 105 := by decide
    have es : (kstr 6).size = 3 := by decide
    rw [es]
    simp [partV, getP, e0, e1, e2, v4]
  · have e0 : chAt (kstr 7) 0 = 105 := by decide
    have e1 : chAt (kstr 7) 1 = 45 := by decide
    have e2 : chAt (kstr 7) 2 = 45 := by decide
    have es : (kstr 7).size = 3 := by decide
    rw [es]
    simp [partV, getP, e0, e1, e2, v4]

/-- The parts, as far as they are filled. -/
def PB (w : World) (pb : Nat) (v : Nat → Int) : Prop := ∀ j, j < 3 → w.cell? ⟨pb, j, none⟩ = some (.int .i64 (v j)) ∧ w.frozen? ⟨pb, j, none⟩ = false
theorem PB.only {S : Nat → Prop} {w w' : World} {pb : Nat} {v : Nat → Int} (h : PB w pb v) (x : Only S w w') (hp : pb < w.heap.size) (hs : ¬ S pb) : PB w' pb v := fun j hj => by
  rw [x.cells pb j hp hs, x.frozens pb j hp hs]
  exact h j hj
theorem PB.set {w : World} {pb i : Nat} {s : ByteArray} {B : Nat → Int} (h : PB w pb (partV s B i)) (hi : i < 3) (z : Int) (hz : z = getP s B i) : PB (w.setCell ⟨pb, i, none⟩ (.int .i64 z)) pb (partV s B (i + 1)) := fun j hj => by
  subst hz
  have h1 := h j hj
  have h2 := h i hi
  by_cases e : j = i
  · subst e
    refine ⟨?_, ?_⟩
    · simp [go_sem, h1.1, partV]
    · simpa [go_sem] using h1.2
  · refine ⟨?_, ?_⟩
    · have hne : ¬ i = j := fun x => e x.symm
      have : partV s B (i + 1) j = partV s B i j := by
        unfold partV
        by_cases hji : j < i
        · rw [if_pos hji, if_pos (by omega)]
        · rw [if_neg hji, if_neg (by omega)]
      rw [this]
      simp [go_sem, h1.1, hne, e]
    · simpa [go_sem] using h1.2
theorem PB.same {w : World} {pb i : Nat} {s : ByteArray} {B : Nat → Int} (h : PB w pb (partV s B i)) (hz : getP s B i = 0) : PB w pb (partV s B (i + 1)) := fun j hj => by
  have : partV s B (i + 1) j = partV s B i j := by
    unfold partV
    by_cases hji : j < i
    · rw [if_pos hji, if_pos (by omega)]
    · rw [if_neg hji]
      by_cases e : j = i
      · subst e; rw [if_pos (by omega), hz]
      · rw [if_neg (by omega)]
  rw [this]
  exact h j hj
end Go.Proofs.Ytgldlkoohfclpaa

namespace Go.Proofs.Ytgldlkoohfclpaa
set_option maxRecDepth 100000
set_option linter.unusedSimpArgs false
set_option linter.unusedVariables false
open Go.RowKit

theorem sgn16_bd {n : Int} (h0 : 0 ≤ n) (h1 : n ≤ 65535) : -32768 ≤ sgn16 n ∧ sgn16 n ≤ 32767 := by unfold sgn16; split <;> omega
set_option maxHeartbeats 800000 in
theorem get_len (A : Option Addr) (n ca : Nat) (w : World) (hn : ¬ (n : Int) = 4) :
    Calls Try.prog 80 #[.slice A n ca] w fun e w' => e = .returned (.tuple #[.agg #[.int .i64 0, .int .i64 0, .int .i64 0, .int .i64 0], .int .i64 1]) ∧ Ext w w' := by
  go_enter Try.func80, Try.ntmps80
  go_wp2
  exact bodyPost_ret (v := .tuple #[.agg #[.int .i64 0, .int .i64 0, .int .i64 0, .int .i64 0], .int .i64 1]) (by simp [results, Try.results80, go_sem]) rfl ⟨rfl, (by repeat (first | (with_reducible exact Ext.refl _) | (with_reducible refine Ext.undrew ?_) | (with_reducible refine Ext.grow ?_ _) | (with_reducible refine Ext.drew ?_) | (with_reducible refine Ext.drewN ?_ _) | (with_reducible refine Ext.alloc ?_ _) | (with_reducible assumption) | ((with_reducible refine Ext.setCell ?_ ?_ _); rotate_left; (first | exact Nat.le_refl _ | ((try dsimp only); (try simp only [World.size_alloc, grow_size, World.size_setCell]); omega)))))⟩

set_option maxHeartbeats 800000 in
theorem rget_len (A : Option Addr) (n ca : Nat) (w : World) (hn : ¬ (n : Int) = 4) :
    Calls Try.prog 75 #[.slice A n ca] w fun e w' => e = .returned (.tuple #[.agg #[.int .i64 0, .int .i64 0, .int .i64 0, .int .i64 0], .int .i64 1]) ∧ Ext w w' := by
  go_enter Try.func75, Try.ntmps75
  go_wp2
  exact bodyPost_ret (v := .tuple #[.agg #[.int .i64 0, .int .i64 0, .int .i64 0, .int .i64 0], .int .i64 1]) (by simp [results, Try.results75, go_sem]) rfl ⟨rfl, (by repeat (first | (with_reducible exact Ext.refl _) | (with_reducible refine Ext.undrew ?_) | (with_reducible refine Ext.grow ?_ _) | (with_reducible refine Ext.drew ?_) | (with_reducible refine Ext.drewN ?_ _) | (with_reducible refine Ext.alloc ?_ _) | (with_reducible assumption) | ((with_reducible refine Ext.setCell ?_ ?_ _); rotate_left; (first | exact Nat.le_refl _ | ((try dsimp only); (try simp only [World.size_alloc, grow_size, World.size_setCell]); omega)))))⟩

/-- What is told of four bytes. -/
def getR (x0 x1 x2 x3 : Int) : Value := if rightI x0 x1 (gB x0 x2 x3) (gC x0 x3) = true then .tuple #[.agg #[.int .i64 x0, .int .i64 x1, .int .i64 (gB x0 x2 x3), .int .i64 (gC x0 x3)], .int .i64 0] else .tuple #[.agg #[.int .i64 0, .int .i64 0, .int .i64 0, .int .i64 0], .int .i64 151]
set_option maxRecDepth 100000 in
set_option maxHeartbeats 4000000 in
theorem get_all (b o ca : Nat) (x0 x1 x2 x3 : Int) (w : World) (hr : RdB w (some ⟨b, o, none⟩) [x0, x1, x2, x3]) (hca : 4 ≤ ca) (hcm : ca ≤ maxLen) (hb0 : 0 ≤ x0 ∧ x0 ≤ 255) (hb1 : 0 ≤ x1 ∧ x1 ≤ 255) (hb2 : 0 ≤ x2 ∧ x2 ≤ 255) (hb3 : 0 ≤ x3 ∧ x3 ≤ 255) :
    Calls Try.prog 80 #[.slice (some ⟨b, o, none⟩) 4 ca] w fun e w' => e = .returned (getR x0 x1 x2 x3) ∧ Ext w w' := by
  have hbw : b < w.heap.size := by obtain ⟨b', o', hA, hb, _⟩ := hr (by simp); cases hA; exact hb
  have hcell : ∀ j, j < 4 → w.cell? ⟨b, o + j, none⟩ = some (.int .u8 ((v4 x0 x1 x2 x3) j)) := fun j hj => by
    obtain ⟨b', o', hA, _, hc⟩ := hr (by simp)
    cases hA
    rw [hc j (by simpa using hj)]
    match j, hj with
    | 0, _ => rfl
    | 1, _ => rfl
    | 2, _ => rfl
    | 3, _ => rfl
  have hbd : ∀ j, j < 4 → 0 ≤ (v4 x0 x1 x2 x3) j ∧ (v4 x0 x1 x2 x3) j ≤ 255 := fun j hj => by
    match j, hj with
    | 0, _ => exact hb0
    | 1, _ => exact hb1
    | 2, _ => exact hb2
    | 3, _ => exact hb3
  have hpk := fun h => partV_kd (x0 := x0) (x1 := x1) (x2 := x2) (x3 := x3) h
  have hr0 : kd x0 = 0 → rightI x0 x1 (gB x0 x2 x3) (gC x0 x3) = false := fun h => by unfold rightI; rw [h]; rfl
  have hs3 : (kstr (kd x0)).size ≤ 3 := by have := kstr_size ⟨kd x0, kd_lt x0⟩; simp only at this; split at this <;> omega
  have has : ∀ i, i < 3 → chAt (kstr (kd x0)) i < 128 := fun i hi => kstr_ascii ⟨kd x0, kd_lt x0⟩ ⟨i, hi⟩
  have hwv : ∀ i, i < 3 → (chAt (kstr (kd x0)) i = 119 → i = 1) := fun i hi => (kstr_w ⟨kd x0, kd_lt x0⟩ ⟨i, hi⟩).1
  have hK := fun w => kinds_ x0 w
  have hc0 := hcell 0 (by omega)
  simp only [Nat.add_zero] at hc0
  replace hc0 : w.cell? ⟨b, o, none⟩ = some (.int .u8 x0) := hc0
  obtain ⟨hb0l, hb0u⟩ := hb0
  generalize kstr (kd x0) = s at hpk hs3 has hwv hK
  have HAS := hid has
  have HK := hid hK
  have HPK := hid hpk
  have HWV := hid hwv
  have HC := hid hcell
  have HBD := hid hbd
  have HR0 := hid hr0
  clear hpk has hwv hK hcell hbd hr0 hr hb1 hb2 hb3
  go_enter Try.func80, Try.ntmps80
  go_wp2_with (go_at_call 86; with_reducible refine (HK.out _).mono ?_; rintro e w1 ⟨rfl, hy⟩; obtain ⟨d, rfl⟩ := hy.grown; clear hy)
  have f1 : Hid (Ext w (w.alloc (.cells #[.int .i64 0, .int .i64 0, .int .i64 0, .int .i64 0] 85))) := hid (by repeat (first | (with_reducible exact Ext.refl _) | (with_reducible refine Ext.undrew ?_) | (with_reducible refine Ext.grow ?_ _) | (with_reducible refine Ext.drew ?_) | (with_reducible refine Ext.drewN ?_ _) | (with_reducible refine Ext.alloc ?_ _) | (with_reducible assumption) | ((with_reducible refine Ext.setCell ?_ ?_ _); rotate_left; (first | exact Nat.le_refl _ | ((try dsimp only); (try simp only [World.size_alloc, grow_size, World.size_setCell]); omega)))))
  have f3 : ((w.alloc (.cells #[.int .i64 0, .int .i64 0, .int .i64 0, .int .i64 0] 85)).cell? ⟨w.heap.size, 0, none⟩ = some (.int .i64 0) ∧ (w.alloc (.cells #[.int .i64 0, .int .i64 0, .int .i64 0, .int .i64 0] 85)).frozen? ⟨w.heap.size, 0, none⟩ = false ∧ (w.alloc (.cells #[.int .i64 0, .int .i64 0, .int .i64 0, .int .i64 0] 85)).cell? ⟨w.heap.size, 1, none⟩ = some (.int .i64 0) ∧ (w.alloc (.cells #[.int .i64 0, .int .i64 0, .int .i64 0, .int .i64 0] 85)).frozen? ⟨w.heap.size, 1, none⟩ = false ∧ (w.alloc (.cells #[.int .i64 0, .int .i64 0, .int .i64 0, .int .i64 0] 85)).cell? ⟨w.heap.size, 2, none⟩ = some (.int .i64 0) ∧ (w.alloc (.cells #[.int .i64 0, .int .i64 0, .int .i64 0, .int .i64 0] 85)).frozen? ⟨w.heap.size, 2, none⟩ = false ∧ (w.alloc (.cells #[.int .i64 0, .int .i64 0, .int .i64 0, .int .i64 0] 85)).cell? ⟨w.heap.size, 3, none⟩ = some (.int .i64 0) ∧ (w.alloc (.cells #[.int .i64 0, .int .i64 0, .int .i64 0, .int .i64 0] 85)).frozen? ⟨w.heap.size, 3, none⟩ = false) := by simp [go_sem]
  have f4 : w.heap.size + 1 = (w.alloc (.cells #[.int .i64 0, .int .i64 0, .int .i64 0, .int .i64 0] 85)).heap.size := by simp
  rw [f4]
  generalize (w.alloc (.cells #[.int .i64 0, .int .i64 0, .int .i64 0, .int .i64 0] 85)) = A at f1 f3 f4 ⊢
  have g1 : PB (Go.Proofs.Ytgldlkoohfclpaa.grow (A.alloc (.cells #[.int .i64 0, .int .i64 0, .int .i64 0] 116)) d) A.heap.size (partV s (v4 x0 x1 x2 x3) 0) := fun j hj => by
    match j, hj with
    | 0, _ => simp [go_sem, partV]
    | 1, _ => simp [go_sem, partV]
    | 2, _ => simp [go_sem, partV]
  have g2 : Ext A (Go.Proofs.Ytgldlkoohfclpaa.grow (A.alloc (.cells #[.int .i64 0, .int .i64 0, .int .i64 0] 116)) d) := (by repeat (first | (with_reducible exact Ext.refl _) | (with_reducible refine Ext.undrew ?_) | (with_reducible refine Ext.grow ?_ _) | (with_reducible refine Ext.drew ?_) | (with_reducible refine Ext.drewN ?_ _) | (with_reducible refine Ext.alloc ?_ _) | (with_reducible assumption) | ((with_reducible refine Ext.setCell ?_ ?_ _); rotate_left; (first | exact Nat.le_refl _ | ((try dsimp only); (try simp only [World.size_alloc, grow_size, World.size_setCell]); omega)))))
  have g3 : A.heap.size + 1 + d.n = (Go.Proofs.Ytgldlkoohfclpaa.grow (A.alloc (.cells #[.int .i64 0, .int .i64 0, .int .i64 0] 116)) d).heap.size := by simp [grow_size]
  rw [g3]
  generalize (Go.Proofs.Ytgldlkoohfclpaa.grow (A.alloc (.cells #[.int .i64 0, .int .i64 0, .int .i64 0] 116)) d) = W at g1 g2 g3 ⊢
  have G1 := hid g1
  have G2 := hid g2
  have F3 := hid f3
  have hbA : b < A.heap.size := by omega
  have hqA : w.heap.size < A.heap.size := by omega
  have hAW : A.heap.size < W.heap.size := by omega
  have hnAW : ¬ A.heap.size = W.heap.size := by omega
  have hnbA : ¬ b = A.heap.size := by omega
  clear f3 g1 g2 g3 f4 hc0
  go_loopw [] (fun wr => ∃ i : Nat, i ≤ s.size ∧ Hid (wr.heap[W.heap.size]? = some (.stringIter s i)) ∧ Hid (PB wr A.heap.size (partV s (v4 x0 x1 x2 x3) i)) ∧ Hid (Ext A wr)) (fun wr => s.size - wr.iterPos W.heap.size)
  case atStart => exact ⟨0, Nat.zero_le _, hid (World.iter_heap _ _ _), hid (G1.out.only (S := fun _ => False) (Only.ofExt (Ext.alloc (Ext.refl W) _)) hAW id), hid (Ext.trans G2.out (Ext.alloc (Ext.refl W) _))⟩
  case round =>
    obtain ⟨i, hi, hit, hpb, hx⟩ := hrel
    by_cases hlt : i < s.size
    · have hi3 : i < 3 := by omega
      have ha := HAS.out i hi3
      have hch := chAt_get hlt
      have HI1 : (0 : Int) ≤ (i : Int) := by omega
      have HI2 : (i : Int) < 3 := by omega
      have hkr : W.heap.size < wr.heap.size := (Array.getElem?_eq_some_iff.1 hit.out).1
      have hwt : Hid ((wr.iterAt W.heap.size s (i + 1)).heap[W.heap.size]? = some (.stringIter s (i + 1))) := hid (Lib.iterAt_heap _ _ _ _ _ hit.out)
      have hpt : Hid (PB (wr.iterAt W.heap.size s (i + 1)) A.heap.size (partV s (v4 x0 x1 x2 x3) i)) := hid (hpb.out.only (S := (· = W.heap.size)) (by rw [turn_iter]; exact Only.turn (S := (· = W.heap.size)) (Only.refl _ _) (.inl rfl) _) (by omega) hnAW)
      have hxt : Hid (Ext A (wr.iterAt W.heap.size s (i + 1))) := hid (Ext.turn hx.out (by omega) _)
      have hst : (wr.iterAt W.heap.size s (i + 1)).heap.size = wr.heap.size := turn_size _ _ _
      have hnx := fun ty => Lib.run_next_ascii_at (P := Try.prog) wr W.heap.size s i ty hit.out hlt (by rw [hch]; exact ha)
      rw [hch] at hnx
      have HNX := hid hnx
      have HMS : Hid (wr.iterPos W.heap.size = i) := hid (by simp [World.iterPos, hit.out])
      clear hnx hch hpb
      generalize wr.iterAt W.heap.size s (i + 1) = wt at hwt hpt hxt hst HNX
      have hkt : W.heap.size < wt.heap.size := by omega
      have hAt : A.heap.size < wt.heap.size := by omega
      have hbt : b < wt.heap.size := by omega
      obtain ⟨hpc, hpf⟩ := hpt.out i hi3
      have hbyte : wt.cell? ⟨b, o + (i + 1), none⟩ = some (.int .u8 ((v4 x0 x1 x2 x3) (i + 1))) := (hxt.out.cells b _ hbA).trans ((f1.out.cells b _ hbw).trans (HC.out (i + 1) (by omega)))
      obtain ⟨hbl, hbu⟩ := HBD.out (i + 1) (by omega)
      have HS2 : ∀ z, Hid ((wt.setCell ⟨A.heap.size, i, none⟩ z).heap[W.heap.size]? = some (.stringIter s (i + 1))) := fun z => hid ((Only.block (Only.setCell (S := (· = A.heap.size)) (Only.refl _ wt) (.inl rfl) z) W.heap.size hkt (fun e => hnAW e.symm)).trans hwt.out)
      have HX3 : ∀ z, Hid (Ext A (wt.setCell ⟨A.heap.size, i, none⟩ z)) := fun z => hid (Ext.setCell hxt.out (Nat.le_refl _) z)
      by_cases h119 : chAt s i = 119
      · have hi1 : i ≤ 1 := by have := HWV.out i hi3 h119; omega
        have e119 : ((chAt s i : Int) == 119) = true := by simp; omega
        have hp : getP s (v4 x0 x1 x2 x3) i = sgn16 ((v4 x0 x1 x2 x3) (i + 1) * 256 + (v4 x0 x1 x2 x3) (i + 2)) := by unfold getP; rw [if_pos h119]
        have hbyte2 : wt.cell? ⟨b, o + (i + 2), none⟩ = some (.int .u8 ((v4 x0 x1 x2 x3) (i + 2))) := (hxt.out.cells b _ hbA).trans ((f1.out.cells b _ hbw).trans (HC.out (i + 2) (by omega)))
        obtain ⟨hcl, hcu⟩ := HBD.out (i + 2) (by omega)
        have hor := or16 ⟨hbl, hbu⟩ ⟨hcl, hcu⟩
        obtain ⟨hsl, hsu⟩ := sgn16_bd (n := (v4 x0 x1 x2 x3) (i + 1) * 256 + (v4 x0 x1 x2 x3) (i + 2)) (by omega) (by omega)
        have hP2 := hid (hpt.out.set hi3 _ hp.symm)
        clear hp h119 hst
        go_wp2
        rw [HNX.out]
        go_wp2
        refine wp_region_turn (q := A.heap.size) (.rd 0 (.rd 1 (.rd 2 (.rd 3 (.rd 4 (.rd 5 (.rd 6 (.rd 7 (.rd 8 (.rd 9 (.rd 10 (.rd 11 (.rd 12 (.rd 13 (.rd 14 (.rd 15 (.rd 16 (.ac 17 .done)))))))))))))))))) (by kernel_rfl) (by kernel_rfl) (fun _ _ d _ _ h => by cases d <;> exact h) (by simp only [Ord.map, nthOp, List.append]; rfl) ?_
        intro d0
        repeat (refine turn_read (by rfl) (fun K hK => ?_); go_big_quiet_op; refine hK _ ?_; clear hK K)
        refine turn_act (by rfl) (fun K hK => ?_)
        go_wp2_with fail
        refine ⟨_, Only.refl _ _, (by first | exact Only.setCell (S := (· = A.heap.size)) (Only.refl _ _) (.inl rfl) _ | (rw [← grow_setCell _ _ _ _ _ hAt]; exact Only.setCell (S := (· = A.heap.size)) (Only.refl _ _) (.inl rfl) _)), ?_⟩
        refine turn_nil ?_
        have HP3 := hid (hP2.out.only (S := fun _ => False) (Only.ofExt (Ext.grow (Ext.refl _) d0)) (by rw [World.size_setCell]; exact hAt) id)
        go_wp2
        go_roundw
        case rel => exact ⟨i + 1, by omega, hid ((grow_old _ d0 _ (by rw [World.size_setCell]; exact hkt)).trans (HS2 _).out), HP3, hid (Ext.grow (HX3 _).out d0)⟩
        case measure =>
          rw [HMS.out]
          simp only [World.iterPos]
          rw [grow_old _ d0 _ (by rw [World.size_setCell]; exact hkt), (HS2 _).out]
          simp only
          omega
      · have e119 : ((chAt s i : Int) == 119) = false := by simp; omega
        by_cases h118 : chAt s i = 118
        · have e118 : ((chAt s i : Int) == 118) = true := by simp; omega
          have hp : getP s (v4 x0 x1 x2 x3) i = 0 := by unfold getP; rw [if_neg h119, if_pos h118]
          have hP2 := hid (hpt.out.same hp)
          clear hp h118 h119 hst hpc hpf hbyte
          go_wp2
          rw [HNX.out]
          go_wp2
          go_roundw
          case rel => exact ⟨i + 1, by omega, hwt, hP2, hxt⟩
          case measure =>
            rw [HMS.out]
            simp only [World.iterPos, hwt.out]
            omega
        · have e118 : ((chAt s i : Int) == 118) = false := by simp; omega
          have hp : getP s (v4 x0 x1 x2 x3) i = (v4 x0 x1 x2 x3) (i + 1) := by unfold getP; rw [if_neg h119, if_neg h118]
          have hP2 := hid (hpt.out.set hi3 ((v4 x0 x1 x2 x3) (i + 1)) hp.symm)
          clear hp h118 h119 hst
          go_wp2
          rw [HNX.out]
          go_wp2
          go_roundw
          case rel => exact ⟨i + 1, by omega, HS2 _, hP2, HX3 _⟩
          case measure =>
            rw [HMS.out]
            simp only [World.iterPos, (HS2 _).out]
            omega
    · have hi' : i = s.size := by omega
      subst hi'
      have hcs := F3.out
      obtain ⟨q0, z0, q1, z1, q2, z2, q3, z3⟩ := hcs
      have r0 := (hx.out.cells w.heap.size 0 hqA).trans q0
      have r1 := (hx.out.cells w.heap.size 1 hqA).trans q1
      have r2 := (hx.out.cells w.heap.size 2 hqA).trans q2
      have r3 := (hx.out.cells w.heap.size 3 hqA).trans q3
      have y0 := (hx.out.frozens w.heap.size 0 hqA).trans z0
      have y1 := (hx.out.frozens w.heap.size 1 hqA).trans z1
      have y2 := (hx.out.frozens w.heap.size 2 hqA).trans z2
      have y3 := (hx.out.frozens w.heap.size 3 hqA).trans z3
      have n0 := (hpb.out 0 (by omega)).1
      have n1 := (hpb.out 1 (by omega)).1
      have n2 := (hpb.out 2 (by omega)).1
      have hsr := hx.out.size
      have hkr : W.heap.size < wr.heap.size := (Array.getElem?_eq_some_iff.1 hit.out).1
      have hqr : w.heap.size < wr.heap.size := by omega
      have hAr : A.heap.size < wr.heap.size := by omega
      have hbr : b < wr.heap.size := by omega
      have hnq : ¬ w.heap.size = A.heap.size := by omega
      have hnq2 : ¬ A.heap.size = w.heap.size := by omega
      have hby0 : wr.cell? ⟨b, o, none⟩ = some (.int .u8 x0) := (hx.out.cells b _ hbA).trans ((f1.out.cells b _ hbw).trans (HC.out 0 (by omega)))
      have HNX := hid fun ty => Lib.run_next_end_at (P := Try.prog) wr W.heap.size s s.size ty hit.out (by omega)
      have hxw : Ext w wr := Ext.trans f1.out hx.out
      clear q0 q1 q2 q3 z0 z1 z2 z3 hsr hnAW
      by_cases hk : kd x0 = 0
      · have HE : Hid (getR x0 x1 x2 x3 = .tuple #[.agg #[.int .i64 0, .int .i64 0, .int .i64 0, .int .i64 0], .int .i64 151]) := hid (by unfold getR; rw [HR0.out hk]; rfl)
        generalize partV s (v4 x0 x1 x2 x3) s.size 0 = p0 at n0
        generalize partV s (v4 x0 x1 x2 x3) s.size 1 = p1 at n1
        generalize partV s (v4 x0 x1 x2 x3) s.size 2 = p2 at n2
        have HRR : Hid (rightI x0 p0 p1 p2 = false) := hid (by unfold rightI; rw [hk]; rfl)
        clear hk
        go_wp2
        rw [HNX.out]
        go_wp2
        refine wp_region_step (.rd 0 (.rd 1 (.rd 2 (.rd 3 (.rd 4 (.rd 5 (.rd 6 (.rd 7 (.rd 8 (.rd 9 (.rd 10 (.ac 11 (.ac 12 .done))))))))))))) (by kernel_rfl) (by kernel_rfl) (fun _ _ d _ _ h => by cases d <;> exact h) (by simp only [Ord.map, nthOp, List.append]; rfl) ?_
        intro d0
        repeat' (first | (refine step_read (by rfl) (fun K hK => ?_); go_big_quiet_op; refine hK _ ?_; clear hK K) | (refine step_act (by rfl) (fun K hK => ?_); go_wp2_with (first | fail); refine ⟨_, Ext.refl _, (by repeat (first | (with_reducible exact Ext.refl _) | (with_reducible refine Ext.undrew ?_) | (with_reducible refine Ext.grow ?_ _) | (with_reducible refine Ext.drew ?_) | (with_reducible refine Ext.drewN ?_ _) | (with_reducible refine Ext.alloc ?_ _) | (with_reducible assumption) | ((with_reducible refine Ext.setCell ?_ ?_ _); rotate_left; (first | exact Nat.le_refl _ | ((try dsimp only); (try simp only [World.size_alloc, grow_size, World.size_setCell]); omega))))), ?_⟩) | refine step_br ?_ ?_)
        all_goals refine step_nil ?_
        go_wp2_with (go_at_call 87; refine (right_ _ _ _ _ _).mono ?_; rw [HRR.out]; rintro e w1 ⟨rfl, hy⟩; obtain ⟨d, rfl⟩ := hy.grown; clear hy)
        exact bodyPost_ret (v := .tuple #[.agg #[.int .i64 0, .int .i64 0, .int .i64 0, .int .i64 0], .int .i64 151]) (by simp [results, Try.results80, go_sem, *]) rfl ⟨HE.out.symm ▸ rfl, (by repeat (first | (with_reducible exact Ext.refl _) | (with_reducible refine Ext.undrew ?_) | (with_reducible refine Ext.grow ?_ _) | (with_reducible refine Ext.drew ?_) | (with_reducible refine Ext.drewN ?_ _) | (with_reducible refine Ext.alloc ?_ _) | (with_reducible assumption) | ((with_reducible refine Ext.setCell ?_ ?_ _); rotate_left; (first | exact Nat.le_refl _ | ((try dsimp only); (try simp only [World.size_alloc, grow_size, World.size_setCell]); omega)))))⟩
      · obtain ⟨e0, e1, e2⟩ := HPK.out hk
        rw [e0] at n0
        rw [e1] at n1
        rw [e2] at n2
        clear e0 e1 e2 hk
        cases hRi : rightI x0 x1 (gB x0 x2 x3) (gC x0 x3) with
        | false =>
          have HE : Hid (getR x0 x1 x2 x3 = .tuple #[.agg #[.int .i64 0, .int .i64 0, .int .i64 0, .int .i64 0], .int .i64 151]) := hid (by unfold getR; rw [hRi]; rfl)
          have HRR := hid hRi
          clear hRi
          go_wp2
          rw [HNX.out]
          go_wp2
          refine wp_region_step (.rd 0 (.rd 1 (.rd 2 (.rd 3 (.rd 4 (.rd 5 (.rd 6 (.rd 7 (.rd 8 (.rd 9 (.rd 10 (.ac 11 (.ac 12 .done))))))))))))) (by kernel_rfl) (by kernel_rfl) (fun _ _ d _ _ h => by cases d <;> exact h) (by simp only [Ord.map, nthOp, List.append]; rfl) ?_
          intro d0
          repeat' (first | (refine step_read (by rfl) (fun K hK => ?_); go_big_quiet_op; refine hK _ ?_; clear hK K) | (refine step_act (by rfl) (fun K hK => ?_); go_wp2_with (first | fail); refine ⟨_, Ext.refl _, (by repeat (first | (with_reducible exact Ext.refl _) | (with_reducible refine Ext.undrew ?_) | (with_reducible refine Ext.grow ?_ _) | (with_reducible refine Ext.drew ?_) | (with_reducible refine Ext.drewN ?_ _) | (with_reducible refine Ext.alloc ?_ _) | (with_reducible assumption) | ((with_reducible refine Ext.setCell ?_ ?_ _); rotate_left; (first | exact Nat.le_refl _ | ((try dsimp only); (try simp only [World.size_alloc, grow_size, World.size_setCell]); omega))))), ?_⟩) | refine step_br ?_ ?_)
          all_goals refine step_nil ?_
          go_wp2_with (go_at_call 87; refine (right_ _ _ _ _ _).mono ?_; rw [HRR.out]; rintro e w1 ⟨rfl, hy⟩; obtain ⟨d, rfl⟩ := hy.grown; clear hy)
          exact bodyPost_ret (v := .tuple #[.agg #[.int .i64 0, .int .i64 0, .int .i64 0, .int .i64 0], .int .i64 151]) (by simp [results, Try.results80, go_sem, *]) rfl ⟨HE.out.symm ▸ rfl, (by repeat (first | (with_reducible exact Ext.refl _) | (with_reducible refine Ext.undrew ?_) | (with_reducible refine Ext.grow ?_ _) | (with_reducible refine Ext.drew ?_) | (with_reducible refine Ext.drewN ?_ _) | (with_reducible refine Ext.alloc ?_ _) | (with_reducible assumption) | ((with_reducible refine Ext.setCell ?_ ?_ _); rotate_left; (first | exact Nat.le_refl _ | ((try dsimp only); (try simp only [World.size_alloc, grow_size, World.size_setCell]); omega)))))⟩
        | true =>
          have HE : Hid (getR x0 x1 x2 x3 = .tuple #[.agg #[.int .i64 x0, .int .i64 x1, .int .i64 (gB x0 x2 x3), .int .i64 (gC x0 x3)], .int .i64 0]) := hid (by unfold getR; rw [hRi]; rfl)
          have HRR := hid hRi
          clear hRi
          go_wp2
          rw [HNX.out]
          go_wp2
          refine wp_region_step (.rd 0 (.rd 1 (.rd 2 (.rd 3 (.rd 4 (.rd 5 (.rd 6 (.rd 7 (.rd 8 (.rd 9 (.rd 10 (.ac 11 (.ac 12 .done))))))))))))) (by kernel_rfl) (by kernel_rfl) (fun _ _ d _ _ h => by cases d <;> exact h) (by simp only [Ord.map, nthOp, List.append]; rfl) ?_
          intro d0
          repeat' (first | (refine step_read (by rfl) (fun K hK => ?_); go_big_quiet_op; refine hK _ ?_; clear hK K) | (refine step_act (by rfl) (fun K hK => ?_); go_wp2_with (first | fail); refine ⟨_, Ext.refl _, (by repeat (first | (with_reducible exact Ext.refl _) | (with_reducible refine Ext.undrew ?_) | (with_reducible refine Ext.grow ?_ _) | (with_reducible refine Ext.drew ?_) | (with_reducible refine Ext.drewN ?_ _) | (with_reducible refine Ext.alloc ?_ _) | (with_reducible assumption) | ((with_reducible refine Ext.setCell ?_ ?_ _); rotate_left; (first | exact Nat.le_refl _ | ((try dsimp only); (try simp only [World.size_alloc, grow_size, World.size_setCell]); omega))))), ?_⟩) | refine step_br ?_ ?_)
          all_goals refine step_nil ?_
          go_wp2_with (go_at_call 87; refine (right_ _ _ _ _ _).mono ?_; rw [HRR.out]; rintro e w1 ⟨rfl, hy⟩; obtain ⟨d, rfl⟩ := hy.grown; clear hy)
          exact bodyPost_ret (v := .tuple #[.agg #[.int .i64 x0, .int .i64 x1, .int .i64 (gB x0 x2 x3), .int .i64 (gC x0 x3)], .int .i64 0]) (by simp [results, Try.results80, go_sem, *]) rfl ⟨HE.out.symm ▸ rfl, (by repeat (first | (with_reducible exact Ext.refl _) | (with_reducible refine Ext.undrew ?_) | (with_reducible refine Ext.grow ?_ _) | (with_reducible refine Ext.drew ?_) | (with_reducible refine Ext.drewN ?_ _) | (with_reducible refine Ext.alloc ?_ _) | (with_reducible assumption) | ((with_reducible refine Ext.setCell ?_ ?_ _); rotate_left; (first | exact Nat.le_refl _ | ((try dsimp only); (try simp only [World.size_alloc, grow_size, World.size_setCell]); omega)))))⟩

end Go.Proofs.Ytgldlkoohfclpaa

namespace Go.Proofs.Ytgldlkoohfclpaa
set_option maxRecDepth 100000
set_option linter.unusedSimpArgs false
set_option linter.unusedVariables false
open Go.RowKit

set_option maxHeartbeats 2000000 in
theorem fine_ (ch : Nat) (n : Int) (w : World) :
    Calls Try.prog 88 #[.int .u8 ch, .int .i64 n] w fun e w' => e = .returned (.bool (hasV (loOf ch) (hiOf ch) n)) ∧ w = w' := by
  by_cases h1 : ch = 114
  · subst h1
    have e : hasV (loOf 114) (hiOf 114) n = (decide (0 ≤ n) && decide (n ≤ 7)) := rfl
    rw [e]
    clear e
    by_cases g1 : 0 ≤ n <;> by_cases g2 : n ≤ 7
    all_goals simp only [g1, g2, decide_true, decide_false, Bool.and_true, Bool.true_and, Bool.and_false, Bool.false_and]
    all_goals (go_enter Try.func88, Try.ntmps88; go_wp2)
    all_goals go_ret
    all_goals exact ⟨by first | rfl | (simp; omega), rfl⟩
  · by_cases h2 : ch = 105
    · subst h2
      have e : hasV (loOf 105) (hiOf 105) n = (decide (0 ≤ n) && decide (n ≤ 255)) := rfl
      rw [e]
      clear e
      by_cases g1 : 0 ≤ n <;> by_cases g2 : n ≤ 255
      all_goals simp only [g1, g2, decide_true, decide_false, Bool.and_true, Bool.true_and, Bool.and_false, Bool.false_and]
      all_goals (go_enter Try.func88, Try.ntmps88; go_wp2)
      all_goals go_ret
      all_goals exact ⟨by first | rfl | (simp; omega), rfl⟩
    · by_cases h3 : ch = 119
      · subst h3
        have e : hasV (loOf 119) (hiOf 119) n = (decide (-32768 ≤ n) && decide (n ≤ 32767)) := rfl
        rw [e]
        clear e
        by_cases g1 : -32768 ≤ n <;> by_cases g2 : n ≤ 32767
        all_goals simp only [g1, g2, decide_true, decide_false, Bool.and_true, Bool.true_and, Bool.and_false, Bool.false_and]
        all_goals (go_enter Try.func88, Try.ntmps88; go_wp2)
        all_goals go_ret
        all_goals exact ⟨by first | rfl | (simp; omega), rfl⟩
      · have e : loOf ch = 0 ∧ hiOf ch = 0 := by unfold loOf hiOf; simp [h1, h2, h3]
        rw [e.1, e.2, fZ_has]
        unfold fZ
        have e1 : ((ch : Int) == 114) = false := by simp; omega
        have e2 : ((ch : Int) == 105) = false := by simp; omega
        have e3 : ((ch : Int) == 119) = false := by simp; omega
        clear e h1 h2 h3
        go_enter Try.func88, Try.ntmps88
        go_wp2
        go_ret
        exact ⟨rfl, rfl⟩

theorem empties (s : ByteArray) : s.toList.isEmpty = decide (s.size = 0) := by
  rw [ByteArray.toList_eq]
  by_cases h0 : s.size = 0
  · have e : s.data.toList = [] := by
      apply List.eq_nil_of_length_eq_zero
      simpa using h0
    rw [e]
    simp [h0]
  · have e : ¬ s.data.toList = [] := fun e => h0 (by have := congrArg List.length e; simpa using this)
    simp only [h0, decide_false, List.isEmpty_eq_false_iff]
    exact e
theorem index_str (s : ByteArray) (i : Nat) (h : i < s.size) (w : World) : (Instr.index 9 (.string s) (.int .i64 (i : Int))).run Try.prog w = .ok (.int .u8 (chAt s i)) w := by
  rw [← chAt_get h]
  simp [Instr.index, go_sem, h]
set_option maxRecDepth 100000 in
set_option maxHeartbeats 8000000 in
theorem rright15 (op a b c : Int) (w : World) :
    Calls Try.prog 85 #[.agg #[.int .i64 op, .int .i64 a, .int .i64 b, .int .i64 c]] w fun e w' => e = .returned (.bool (rightI op a b c)) ∧ Ext w w' := by
  have hR := rightS_kstr op a b c
  have hs3 : (kstr (kd op)).size = 0 ∨ (kstr (kd op)).size = 3 := by have := kstr_size ⟨kd op, kd_lt op⟩; simp only at this; split at this <;> omega
  have hK := fun w => rkinds op w
  generalize kstr (kd op) = s at hR hs3 hK
  rw [← hR]
  have HK := hid hK
  clear hR hK
  rcases hs3 with hs | hs
  · have e : rightS s (v3 a b c) = false := by unfold rightS; rw [hs]; rfl
    rw [e]
    have he : (!s.toList.isEmpty) = false := by rw [empties, hs]; rfl
    clear e hs
    go_enter Try.func85, Try.ntmps85
    go_wp2_with (go_at_call 84; refine (HK.out _).mono ?_; rintro e w1 ⟨rfl, rfl⟩)
    refine wp_region_step (.rd 0 (.rd 1 (.rd 2 (.rd 3 (.rd 4 (.rd 5 (.rd 6 (.ac 7 (.rd 8 (.rd 9 (.rd 10 (.rd 11 (.rd 12 (.rd 13 (.ac 14 (.rd 15 (.rd 16 (.rd 17 (.rd 18 (.rd 19 (.rd 20 (.ac 21 (.rd 22 (.rd 23 .done)))))))))))))))))))))))) (by kernel_rfl) (by kernel_rfl) (fun _ _ d _ _ h => by cases d <;> exact h) (by simp only [Ord.map, nthOp, List.append]; rfl) ?_
    intro d0
    repeat' (first | (refine step_read (by rfl) (fun K hK => ?_); go_big_quiet_op; refine hK _ ?_; clear hK K) | (refine step_act (by rfl) (fun K hK => ?_); go_wp2_with (first | (go_at_call 88; with_reducible refine Calls.mono (fine_ (chAt s 0) a _) ?_; rw [show hasV (loOf (chAt s 0)) (hiOf (chAt s 0)) a = okAt s (v3 a b c) 0 from rfl, HB0.out]; rintro e w1 ⟨rfl, rfl⟩) | (go_at_call 88; with_reducible refine Calls.mono (fine_ (chAt s 1) b _) ?_; rw [show hasV (loOf (chAt s 1)) (hiOf (chAt s 1)) b = okAt s (v3 a b c) 1 from rfl, HB1.out]; rintro e w1 ⟨rfl, rfl⟩) | (go_at_call 88; with_reducible refine Calls.mono (fine_ (chAt s 2) c _) ?_; rw [show hasV (loOf (chAt s 2)) (hiOf (chAt s 2)) c = okAt s (v3 a b c) 2 from rfl, HB2.out]; rintro e w1 ⟨rfl, rfl⟩)); refine ⟨_, Ext.refl _, (by repeat (first | (with_reducible exact Ext.refl _) | (with_reducible refine Ext.undrew ?_) | (with_reducible refine Ext.grow ?_ _) | (with_reducible refine Ext.drew ?_) | (with_reducible refine Ext.drewN ?_ _) | (with_reducible refine Ext.alloc ?_ _) | (with_reducible assumption) | ((with_reducible refine Ext.setCell ?_ ?_ _); rotate_left; (first | exact Nat.le_refl _ | ((try dsimp only); (try simp only [World.size_alloc, grow_size, World.size_setCell]); omega))))), ?_⟩) | refine step_br ?_ ?_ | (refine step_skip (by rfl) ?_; simp only [Act.put, List.setIfInBounds_toArray, List.set_cons_zero, List.set_cons_succ]) | (refine step_idle (by rfl) ?_; simp only [Act.put, List.setIfInBounds_toArray, List.set_cons_zero, List.set_cons_succ]))
    all_goals refine step_nil ?_
    all_goals go_wp2
    all_goals go_ret
    all_goals exact ⟨rfl, (by repeat (first | (with_reducible exact Ext.refl _) | (with_reducible refine Ext.undrew ?_) | (with_reducible refine Ext.grow ?_ _) | (with_reducible refine Ext.drew ?_) | (with_reducible refine Ext.drewN ?_ _) | (with_reducible refine Ext.alloc ?_ _) | (with_reducible assumption) | ((with_reducible refine Ext.setCell ?_ ?_ _); rotate_left; (first | exact Nat.le_refl _ | ((try dsimp only); (try simp only [World.size_alloc, grow_size, World.size_setCell]); omega)))))⟩
  · have hA := all3 s hs (v3 a b c)
    have he : (!s.toList.isEmpty) = true := by rw [empties, hs]; rfl
    rw [hA]
    clear hA
    cases hB0 : okAt s (v3 a b c) 0 with
    | false =>
      simp only [Bool.false_and]
      have HR := hid (rfl : True = True)
      have HB0 := hid hB0
      clear hB0
      have i0 : ∀ w, (Instr.index 9 (.string s) (.int .i64 0)).run Try.prog w = .ok (.int .u8 (chAt s 0)) w := index_str s 0 (by omega)
      have i1 : ∀ w, (Instr.index 9 (.string s) (.int .i64 1)).run Try.prog w = .ok (.int .u8 (chAt s 1)) w := index_str s 1 (by omega)
      have i2 : ∀ w, (Instr.index 9 (.string s) (.int .i64 2)).run Try.prog w = .ok (.int .u8 (chAt s 2)) w := index_str s 2 (by omega)
      clear hs
      go_enter Try.func85, Try.ntmps85
      go_wp2_with (go_at_call 84; refine (HK.out _).mono ?_; rintro e w1 ⟨rfl, rfl⟩)
      refine wp_region_step (.rd 0 (.rd 1 (.rd 2 (.rd 3 (.rd 4 (.rd 5 (.rd 6 (.ac 7 (.rd 8 (.rd 9 (.rd 10 (.rd 11 (.rd 12 (.rd 13 (.ac 14 (.rd 15 (.rd 16 (.rd 17 (.rd 18 (.rd 19 (.rd 20 (.ac 21 (.rd 22 (.rd 23 .done)))))))))))))))))))))))) (by kernel_rfl) (by kernel_rfl) (fun _ _ d _ _ h => by cases d <;> exact h) (by simp only [Ord.map, nthOp, List.append]; rfl) ?_
      intro d0
      repeat' (first | (refine step_read (by rfl) (fun K hK => ?_); go_big_quiet_op; refine hK _ ?_; clear hK K) | (refine step_act (by rfl) (fun K hK => ?_); go_wp2_with (first | (go_at_call 88; with_reducible refine Calls.mono (fine_ (chAt s 0) a _) ?_; rw [show hasV (loOf (chAt s 0)) (hiOf (chAt s 0)) a = okAt s (v3 a b c) 0 from rfl, HB0.out]; rintro e w1 ⟨rfl, rfl⟩) | (go_at_call 88; with_reducible refine Calls.mono (fine_ (chAt s 1) b _) ?_; rw [show hasV (loOf (chAt s 1)) (hiOf (chAt s 1)) b = okAt s (v3 a b c) 1 from rfl, HB1.out]; rintro e w1 ⟨rfl, rfl⟩) | (go_at_call 88; with_reducible refine Calls.mono (fine_ (chAt s 2) c _) ?_; rw [show hasV (loOf (chAt s 2)) (hiOf (chAt s 2)) c = okAt s (v3 a b c) 2 from rfl, HB2.out]; rintro e w1 ⟨rfl, rfl⟩)); refine ⟨_, Ext.refl _, (by repeat (first | (with_reducible exact Ext.refl _) | (with_reducible refine Ext.undrew ?_) | (with_reducible refine Ext.grow ?_ _) | (with_reducible refine Ext.drew ?_) | (with_reducible refine Ext.drewN ?_ _) | (with_reducible refine Ext.alloc ?_ _) | (with_reducible assumption) | ((with_reducible refine Ext.setCell ?_ ?_ _); rotate_left; (first | exact Nat.le_refl _ | ((try dsimp only); (try simp only [World.size_alloc, grow_size, World.size_setCell]); omega))))), ?_⟩) | refine step_br ?_ ?_ | (refine step_skip (by rfl) ?_; simp only [Act.put, List.setIfInBounds_toArray, List.set_cons_zero, List.set_cons_succ]) | (refine step_idle (by rfl) ?_; simp only [Act.put, List.setIfInBounds_toArray, List.set_cons_zero, List.set_cons_succ]))
      all_goals refine step_nil ?_
      all_goals go_wp2
      all_goals go_ret
      all_goals exact ⟨by first | rfl | (rw [HR.out]; rfl), (by repeat (first | (with_reducible exact Ext.refl _) | (with_reducible refine Ext.undrew ?_) | (with_reducible refine Ext.grow ?_ _) | (with_reducible refine Ext.drew ?_) | (with_reducible refine Ext.drewN ?_ _) | (with_reducible refine Ext.alloc ?_ _) | (with_reducible assumption) | ((with_reducible refine Ext.setCell ?_ ?_ _); rotate_left; (first | exact Nat.le_refl _ | ((try dsimp only); (try simp only [World.size_alloc, grow_size, World.size_setCell]); omega)))))⟩
    | true =>
      cases hB1 : okAt s (v3 a b c) 1 with
      | false =>
        simp only [Bool.false_and, Bool.and_false]
        have HR := hid (rfl : True = True)
        have HB0 := hid hB0
        clear hB0
        have HB1 := hid hB1
        clear hB1
        have i0 : ∀ w, (Instr.index 9 (.string s) (.int .i64 0)).run Try.prog w = .ok (.int .u8 (chAt s 0)) w := index_str s 0 (by omega)
        have i1 : ∀ w, (Instr.index 9 (.string s) (.int .i64 1)).run Try.prog w = .ok (.int .u8 (chAt s 1)) w := index_str s 1 (by omega)
        have i2 : ∀ w, (Instr.index 9 (.string s) (.int .i64 2)).run Try.prog w = .ok (.int .u8 (chAt s 2)) w := index_str s 2 (by omega)
        clear hs
        go_enter Try.func85, Try.ntmps85
        go_wp2_with (go_at_call 84; refine (HK.out _).mono ?_; rintro e w1 ⟨rfl, rfl⟩)
        refine wp_region_step (.rd 0 (.rd 1 (.rd 2 (.rd 3 (.rd 4 (.rd 5 (.rd 6 (.ac 7 (.rd 8 (.rd 9 (.rd 10 (.rd 11 (.rd 12 (.rd 13 (.ac 14 (.rd 15 (.rd 16 (.rd 17 (.rd 18 (.rd 19 (.rd 20 (.ac 21 (.rd 22 (.rd 23 .done)))))))))))))))))))))))) (by kernel_rfl) (by kernel_rfl) (fun _ _ d _ _ h => by cases d <;> exact h) (by simp only [Ord.map, nthOp, List.append]; rfl) ?_
        intro d0
        repeat' (first | (refine step_read (by rfl) (fun K hK => ?_); go_big_quiet_op; refine hK _ ?_; clear hK K) | (refine step_act (by rfl) (fun K hK => ?_); go_wp2_with (first | (go_at_call 88; with_reducible refine Calls.mono (fine_ (chAt s 0) a _) ?_; rw [show hasV (loOf (chAt s 0)) (hiOf (chAt s 0)) a = okAt s (v3 a b c) 0 from rfl, HB0.out]; rintro e w1 ⟨rfl, rfl⟩) | (go_at_call 88; with_reducible refine Calls.mono (fine_ (chAt s 1) b _) ?_; rw [show hasV (loOf (chAt s 1)) (hiOf (chAt s 1)) b = okAt s (v3 a b c) 1 from rfl, HB1.out]; rintro e w1 ⟨rfl, rfl⟩) | (go_at_call 88; with_reducible refine Calls.mono (fine_ (chAt s 2) c _) ?_; rw [show hasV (loOf (chAt s 2)) (hiOf (chAt s 2)) c = okAt s (v3 a b c) 2 from rfl, HB2.out]; rintro e w1 ⟨rfl, rfl⟩)); refine ⟨_, Ext.refl _, (by repeat (first | (with_reducible exact Ext.refl _) | (with_reducible refine Ext.undrew ?_) | (with_reducible refine Ext.grow ?_ _) | (with_reducible refine Ext.drew ?_) | (with_reducible refine Ext.drewN ?_ _) | (with_reducible refine Ext.alloc ?_ _) | (with_reducible assumption) | ((with_reducible refine Ext.setCell ?_ ?_ _); rotate_left; (first | exact Nat.le_refl _ | ((try dsimp only); (try simp only [World.size_alloc, grow_size, World.size_setCell]); omega))))), ?_⟩) | refine step_br ?_ ?_ | (refine step_skip (by rfl) ?_; simp only [Act.put, List.setIfInBounds_toArray, List.set_cons_zero, List.set_cons_succ]) | (refine step_idle (by rfl) ?_; simp only [Act.put, List.setIfInBounds_toArray, List.set_cons_zero, List.set_cons_succ]))
        all_goals refine step_nil ?_
        all_goals go_wp2
        all_goals go_ret
        all_goals exact ⟨by first | rfl | (rw [HR.out]; rfl), (by repeat (first | (with_reducible exact Ext.refl _) | (with_reducible refine Ext.undrew ?_) | (with_reducible refine Ext.grow ?_ _) | (with_reducible refine Ext.drew ?_) | (with_reducible refine Ext.drewN ?_ _) | (with_reducible refine Ext.alloc ?_ _) | (with_reducible assumption) | ((with_reducible refine Ext.setCell ?_ ?_ _); rotate_left; (first | exact Nat.le_refl _ | ((try dsimp only); (try simp only [World.size_alloc, grow_size, World.size_setCell]); omega)))))⟩
      | true =>
        cases hB2 : okAt s (v3 a b c) 2 with
        | false =>
          simp only [Bool.and_false]
          have HR := hid (rfl : True = True)
          have HB0 := hid hB0
          clear hB0
          have HB1 := hid hB1
          clear hB1
          have HB2 := hid hB2
          clear hB2
          have i0 : ∀ w, (Instr.index 9 (.string s) (.int .i64 0)).run Try.prog w = .ok (.int .u8 (chAt s 0)) w := index_str s 0 (by omega)
          have i1 : ∀ w, (Instr.index 9 (.string s) (.int .i64 1)).run Try.prog w = .ok (.int .u8 (chAt s 1)) w := index_str s 1 (by omega)
          have i2 : ∀ w, (Instr.index 9 (.string s) (.int .i64 2)).run Try.prog w = .ok (.int .u8 (chAt s 2)) w := index_str s 2 (by omega)
          clear hs
          go_enter Try.func85, Try.ntmps85
          go_wp2_with (go_at_call 84; refine (HK.out _).mono ?_; rintro e w1 ⟨rfl, rfl⟩)
          refine wp_region_step (.rd 0 (.rd 1 (.rd 2 (.rd 3 (.rd 4 (.rd 5 (.rd 6 (.ac 7 (.rd 8 (.rd 9 (.rd 10 (.rd 11 (.rd 12 (.rd 13 (.ac 14 (.rd 15 (.rd 16 (.rd 17 (.rd 18 (.rd 19 (.rd 20 (.ac 21 (.rd 22 (.rd 23 .done)))))))))))))))))))))))) (by kernel_rfl) (by kernel_rfl) (fun _ _ d _ _ h => by cases d <;> exact h) (by simp only [Ord.map, nthOp, List.append]; rfl) ?_
          intro d0
          repeat' (first | (refine step_read (by rfl) (fun K hK => ?_); go_big_quiet_op; refine hK _ ?_; clear hK K) | (refine step_act (by rfl) (fun K hK => ?_); go_wp2_with (first | (go_at_call 88; with_reducible refine Calls.mono (fine_ (chAt s 0) a _) ?_; rw [show hasV (loOf (chAt s 0)) (hiOf (chAt s 0)) a = okAt s (v3 a b c) 0 from rfl, HB0.out]; rintro e w1 ⟨rfl, rfl⟩) | (go_at_call 88; with_reducible refine Calls.mono (fine_ (chAt s 1) b _) ?_; rw [show hasV (loOf (chAt s 1)) (hiOf (chAt s 1)) b = okAt s (v3 a b c) 1 from rfl, HB1.out]; rintro e w1 ⟨rfl, rfl⟩) | (go_at_call 88; with_reducible refine Calls.mono (fine_ (chAt s 2) c _) ?_; rw [show hasV (loOf (chAt s 2)) (hiOf (chAt s 2)) c = okAt s (v3 a b c) 2 from rfl, HB2.out]; rintro e w1 ⟨rfl, rfl⟩)); refine ⟨_, Ext.refl _, (by repeat (first | (with_reducible exact Ext.refl _) | (with_reducible refine Ext.undrew ?_) | (with_reducible refine Ext.grow ?_ _) | (with_reducible refine Ext.drew ?_) | (with_reducible refine Ext.drewN ?_ _) | (with_reducible refine Ext.alloc ?_ _) | (with_reducible assumption) | ((with_reducible refine Ext.setCell ?_ ?_ _); rotate_left; (first | exact Nat.le_refl _ | ((try dsimp only); (try simp only [World.size_alloc, grow_size, World.size_setCell]); omega))))), ?_⟩) | refine step_br ?_ ?_ | (refine step_skip (by rfl) ?_; simp only [Act.put, List.setIfInBounds_toArray, List.set_cons_zero, List.set_cons_succ]) | (refine step_idle (by rfl) ?_; simp only [Act.put, List.setIfInBounds_toArray, List.set_cons_zero, List.set_cons_succ]))
          all_goals refine step_nil ?_
          all_goals go_wp2
          all_goals go_ret
          all_goals exact ⟨by first | rfl | (rw [HR.out]; rfl), (by repeat (first | (with_reducible exact Ext.refl _) | (with_reducible refine Ext.undrew ?_) | (with_reducible refine Ext.grow ?_ _) | (with_reducible refine Ext.drew ?_) | (with_reducible refine Ext.drewN ?_ _) | (with_reducible refine Ext.alloc ?_ _) | (with_reducible assumption) | ((with_reducible refine Ext.setCell ?_ ?_ _); rotate_left; (first | exact Nat.le_refl _ | ((try dsimp only); (try simp only [World.size_alloc, grow_size, World.size_setCell]); omega)))))⟩
        | true =>
          simp only [Bool.and_true]
          have HR := hid (rfl : True = True)
          have HB0 := hid hB0
          clear hB0
          have HB1 := hid hB1
          clear hB1
          have HB2 := hid hB2
          clear hB2
          have i0 : ∀ w, (Instr.index 9 (.string s) (.int .i64 0)).run Try.prog w = .ok (.int .u8 (chAt s 0)) w := index_str s 0 (by omega)
          have i1 : ∀ w, (Instr.index 9 (.string s) (.int .i64 1)).run Try.prog w = .ok (.int .u8 (chAt s 1)) w := index_str s 1 (by omega)
          have i2 : ∀ w, (Instr.index 9 (.string s) (.int .i64 2)).run Try.prog w = .ok (.int .u8 (chAt s 2)) w := index_str s 2 (by omega)
          clear hs
          go_enter Try.func85, Try.ntmps85
          go_wp2_with (go_at_call 84; refine (HK.out _).mono ?_; rintro e w1 ⟨rfl, rfl⟩)
          refine wp_region_step (.rd 0 (.rd 1 (.rd 2 (.rd 3 (.rd 4 (.rd 5 (.rd 6 (.ac 7 (.rd 8 (.rd 9 (.rd 10 (.rd 11 (.rd 12 (.rd 13 (.ac 14 (.rd 15 (.rd 16 (.rd 17 (.rd 18 (.rd 19 (.rd 20 (.ac 21 (.rd 22 (.rd 23 .done)))))))))))))))))))))))) (by kernel_rfl) (by kernel_rfl) (fun _ _ d _ _ h => by cases d <;> exact h) (by simp only [Ord.map, nthOp, List.append]; rfl) ?_
          intro d0
          repeat' (first | (refine step_read (by rfl) (fun K hK => ?_); go_big_quiet_op; refine hK _ ?_; clear hK K) | (refine step_act (by rfl) (fun K hK => ?_); go_wp2_with (first | (go_at_call 88; with_reducible refine Calls.mono (fine_ (chAt s 0) a _) ?_; rw [show hasV (loOf (chAt s 0)) (hiOf (chAt s 0)) a = okAt s (v3 a b c) 0 from rfl, HB0.out]; rintro e w1 ⟨rfl, rfl⟩) | (go_at_call 88; with_reducible refine Calls.mono (fine_ (chAt s 1) b _) ?_; rw [show hasV (loOf (chAt s 1)) (hiOf (chAt s 1)) b = okAt s (v3 a b c) 1 from rfl, HB1.out]; rintro e w1 ⟨rfl, rfl⟩) | (go_at_call 88; with_reducible refine Calls.mono (fine_ (chAt s 2) c _) ?_; rw [show hasV (loOf (chAt s 2)) (hiOf (chAt s 2)) c = okAt s (v3 a b c) 2 from rfl, HB2.out]; rintro e w1 ⟨rfl, rfl⟩)); refine ⟨_, Ext.refl _, (by repeat (first | (with_reducible exact Ext.refl _) | (with_reducible refine Ext.undrew ?_) | (with_reducible refine Ext.grow ?_ _) | (with_reducible refine Ext.drew ?_) | (with_reducible refine Ext.drewN ?_ _) | (with_reducible refine Ext.alloc ?_ _) | (with_reducible assumption) | ((with_reducible refine Ext.setCell ?_ ?_ _); rotate_left; (first | exact Nat.le_refl _ | ((try dsimp only); (try simp only [World.size_alloc, grow_size, World.size_setCell]); omega))))), ?_⟩) | refine step_br ?_ ?_ | (refine step_skip (by rfl) ?_; simp only [Act.put, List.setIfInBounds_toArray, List.set_cons_zero, List.set_cons_succ]) | (refine step_idle (by rfl) ?_; simp only [Act.put, List.setIfInBounds_toArray, List.set_cons_zero, List.set_cons_succ]))
          all_goals refine step_nil ?_
          all_goals go_wp2
          all_goals go_ret
          all_goals exact ⟨by first | rfl | (rw [HR.out]; rfl), (by repeat (first | (with_reducible exact Ext.refl _) | (with_reducible refine Ext.undrew ?_) | (with_reducible refine Ext.grow ?_ _) | (with_reducible refine Ext.drew ?_) | (with_reducible refine Ext.drewN ?_ _) | (with_reducible refine Ext.alloc ?_ _) | (with_reducible assumption) | ((with_reducible refine Ext.setCell ?_ ?_ _); rotate_left; (first | exact Nat.le_refl _ | ((try dsimp only); (try simp only [World.size_alloc, grow_size, World.size_setCell]); omega)))))⟩

end Go.Proofs.Ytgldlkoohfclpaa

namespace Go.Proofs.Ytgldlkoohfclpaa
set_option maxRecDepth 100000
set_option linter.unusedSimpArgs false
set_option linter.unusedVariables false
open Go.RowKit

set_option maxRecDepth 100000 in
set_option maxHeartbeats 8000000 in
theorem rget_all (b o ca : Nat) (x0 x1 x2 x3 : Int) (w : World) (hr : RdB w (some ⟨b, o, none⟩) [x0, x1, x2, x3]) (hca : 4 ≤ ca) (hcm : ca ≤ maxLen) (hb0 : 0 ≤ x0 ∧ x0 ≤ 255) (hb1 : 0 ≤ x1 ∧ x1 ≤ 255) (hb2 : 0 ≤ x2 ∧ x2 ≤ 255) (hb3 : 0 ≤ x3 ∧ x3 ≤ 255) :
    Calls Try.prog 75 #[.slice (some ⟨b, o, none⟩) 4 ca] w fun e w' => e = .returned (getR x0 x1 x2 x3) ∧ Ext w w' := by
  have hbw : b < w.heap.size := by obtain ⟨b', o', hA, hb, _⟩ := hr (by simp); cases hA; exact hb
  obtain ⟨c0, c1, c2, c3⟩ : w.cell? ⟨b, o, none⟩ = some (.int .u8 x0) ∧ w.cell? ⟨b, o + 1, none⟩ = some (.int .u8 x1) ∧ w.cell? ⟨b, o + 2, none⟩ = some (.int .u8 x2) ∧ w.cell? ⟨b, o + 3, none⟩ = some (.int .u8 x3) := by
    obtain ⟨b', o', hA, _, hc⟩ := hr (by simp)
    cases hA
    exact ⟨hc 0 (by simp), hc 1 (by simp), hc 2 (by simp), hc 3 (by simp)⟩
  obtain ⟨l0, u0⟩ := hb0
  obtain ⟨l1, u1⟩ := hb1
  obtain ⟨l2, u2⟩ := hb2
  obtain ⟨l3, u3⟩ := hb3
  have hK := fun w => rkinds x0 w
  by_cases hk : kd x0 = 0
  · have he : (kstr (kd x0)).toList.isEmpty = true := by rw [hk, empties]; rfl
    have HE : Hid (getR x0 x1 x2 x3 = .tuple #[.agg #[.int .i64 0, .int .i64 0, .int .i64 0, .int .i64 0], .int .i64 151]) := hid (by unfold getR rightI; rw [hk]; rfl)
    generalize kstr (kd x0) = s at hK he
    have HK := hid hK
    clear hK hk hr
    go_enter Try.func75, Try.ntmps75
    go_wp2
    refine wp_region_step (.rd 0 (.rd 1 (.rd 2 (.rd 3 (.rd 4 (.rd 5 (.rd 6 (.rd 7 (.rd 8 (.rd 9 (.rd 10 (.rd 11 (.rd 12 (.rd 13 (.rd 14 (.rd 15 (.rd 16 (.ac 17 (.ac 18 .done))))))))))))))))))) (by kernel_rfl) (by kernel_rfl) (fun _ _ d _ _ h => by cases d <;> exact h) (by simp only [Ord.map, nthOp, List.append]; rfl) ?_
    intro d0
    repeat' (first | (refine step_read (by rfl) (fun K hK => ?_); go_big_quiet_op; refine hK _ ?_; clear hK K) | (refine step_act (by rfl) (fun K hK => ?_); go_wp2_with (first | fail); refine ⟨_, Ext.refl _, (by repeat (first | (with_reducible exact Ext.refl _) | (with_reducible refine Ext.undrew ?_) | (with_reducible refine Ext.grow ?_ _) | (with_reducible refine Ext.drew ?_) | (with_reducible refine Ext.drewN ?_ _) | (with_reducible refine Ext.alloc ?_ _) | (with_reducible assumption) | ((with_reducible refine Ext.setCell ?_ ?_ _); rotate_left; (first | exact Nat.le_refl _ | ((try dsimp only); (try simp only [World.size_alloc, grow_size, World.size_setCell]); omega))))), ?_⟩) | refine step_br ?_ ?_)
    all_goals refine step_nil ?_
    go_wp2_with (go_at_call 84; with_reducible refine (HK.out _).mono ?_; rintro e w1 ⟨rfl, rfl⟩)
    exact bodyPost_ret (v := .tuple #[.agg #[.int .i64 0, .int .i64 0, .int .i64 0, .int .i64 0], .int .i64 151]) (by simp [results, Try.results75, go_sem, *]) rfl ⟨HE.out.symm ▸ rfl, (by repeat (first | (with_reducible exact Ext.refl _) | (with_reducible refine Ext.undrew ?_) | (with_reducible refine Ext.grow ?_ _) | (with_reducible refine Ext.drew ?_) | (with_reducible refine Ext.drewN ?_ _) | (with_reducible refine Ext.alloc ?_ _) | (with_reducible assumption) | ((with_reducible refine Ext.setCell ?_ ?_ _); rotate_left; (first | exact Nat.le_refl _ | ((try dsimp only); (try simp only [World.size_alloc, grow_size, World.size_setCell]); omega)))))⟩
  · have hs3 : (kstr (kd x0)).size = 3 := by have := kstr_size ⟨kd x0, kd_lt x0⟩; simp only [hk] at this; exact this
    have he : (kstr (kd x0)).toList.isEmpty = false := by rw [empties, hs3]; rfl
    have i1 : ∀ w, (Instr.index 9 (.string (kstr (kd x0))) (.int .i64 1)).run Try.prog w = .ok (.int .u8 (chAt (kstr (kd x0)) 1)) w := index_str _ 1 (by omega)
    have hwk : (chAt (kstr (kd x0)) 1 = 119) = (kd x0 = 2 ∨ kd x0 = 5) := by
      rcases kd_cases x0 with h | h | h | h | h | h | h | h
      · exact absurd h hk
      · rw [h, show chAt (kstr 1) 1 = 45 from by decide]; simp
      · rw [h, show chAt (kstr 2) 1 = 119 from by decide]; simp
      · rw [h, show chAt (kstr 3) 1 = 114 from by decide]; simp
      · rw [h, show chAt (kstr 4) 1 = 114 from by decide]; simp
      · rw [h, show chAt (kstr 5) 1 = 119 from by decide]; simp
      · rw [h, show chAt (kstr 6) 1 = 114 from by decide]; simp
      · rw [h, show chAt (kstr 7) 1 = 45 from by decide]; simp
    by_cases hwd : kd x0 = 2 ∨ kd x0 = 5
    · have e119 : ((chAt (kstr (kd x0)) 1 : Int) == 119) = true := by
        have : chAt (kstr (kd x0)) 1 = 119 := by rw [hwk]; exact hwd
        rw [this]
        rfl
      have hgC : gC x0 x3 = 0 := by unfold gC; rw [if_pos hwd]
      have hgB0 : gB x0 x2 x3 = sgn16 (x2 * 256 + x3) := by unfold gB; rw [if_pos hwd]
      generalize kstr (kd x0) = s at hK i1 e119 he
      have HK := hid hK
      clear hs3 hwk hK hwd hk hr
      by_cases hge : 32768 ≤ 256 * x2 + x3
      · have hgB : gB x0 x2 x3 = 256 * x2 + x3 - 65536 := by rw [hgB0]; unfold sgn16; rw [if_pos (by omega)]; omega
        clear hgB0
        cases hRi : rightI x0 x1 (256 * x2 + x3 - 65536) (0) with
        | false =>
          have HE : Hid (getR x0 x1 x2 x3 = .tuple #[.agg #[.int .i64 0, .int .i64 0, .int .i64 0, .int .i64 0], .int .i64 151]) := hid (by unfold getR; rw [hgB, hgC, hRi]; rfl)
          have HRR := hid hRi
          clear hRi hgB hgC
          go_enter Try.func75, Try.ntmps75
          go_wp2
          refine wp_region_step (.rd 0 (.rd 1 (.rd 2 (.rd 3 (.rd 4 (.rd 5 (.rd 6 (.rd 7 (.rd 8 (.rd 9 (.rd 10 (.rd 11 (.rd 12 (.rd 13 (.rd 14 (.rd 15 (.rd 16 (.ac 17 (.ac 18 .done))))))))))))))))))) (by kernel_rfl) (by kernel_rfl) (fun _ _ d _ _ h => by cases d <;> exact h) (by simp only [Ord.map, nthOp, List.append]; rfl) ?_
          intro d0
          repeat' (first | (refine step_read (by rfl) (fun K hK => ?_); go_big_quiet_op; refine hK _ ?_; clear hK K) | (refine step_act (by rfl) (fun K hK => ?_); go_wp2_with (first | fail); refine ⟨_, Ext.refl _, (by repeat (first | (with_reducible exact Ext.refl _) | (with_reducible refine Ext.undrew ?_) | (with_reducible refine Ext.grow ?_ _) | (with_reducible refine Ext.drew ?_) | (with_reducible refine Ext.drewN ?_ _) | (with_reducible refine Ext.alloc ?_ _) | (with_reducible assumption) | ((with_reducible refine Ext.setCell ?_ ?_ _); rotate_left; (first | exact Nat.le_refl _ | ((try dsimp only); (try simp only [World.size_alloc, grow_size, World.size_setCell]); omega))))), ?_⟩) | refine step_br ?_ ?_)
          all_goals refine step_nil ?_
          go_wp2_with (first | (go_at_call 84; with_reducible refine (HK.out _).mono ?_; rintro e w1 ⟨rfl, rfl⟩) | (go_at_call 85; refine (rright15 _ _ _ _ _).mono ?_; rw [HRR.out]; rintro e w1 ⟨rfl, hy⟩; obtain ⟨dr, rfl⟩ := hy.grown; clear hy))
          exact bodyPost_ret (v := .tuple #[.agg #[.int .i64 0, .int .i64 0, .int .i64 0, .int .i64 0], .int .i64 151]) (by simp [results, Try.results75, go_sem, *]) rfl ⟨HE.out.symm ▸ rfl, (by repeat (first | (with_reducible exact Ext.refl _) | (with_reducible refine Ext.undrew ?_) | (with_reducible refine Ext.grow ?_ _) | (with_reducible refine Ext.drew ?_) | (with_reducible refine Ext.drewN ?_ _) | (with_reducible refine Ext.alloc ?_ _) | (with_reducible assumption) | ((with_reducible refine Ext.setCell ?_ ?_ _); rotate_left; (first | exact Nat.le_refl _ | ((try dsimp only); (try simp only [World.size_alloc, grow_size, World.size_setCell]); omega)))))⟩
        | true =>
          have HE : Hid (getR x0 x1 x2 x3 = .tuple #[.agg #[.int .i64 x0, .int .i64 x1, .int .i64 (256 * x2 + x3 - 65536), .int .i64 (0)], .int .i64 0]) := hid (by unfold getR; rw [hgB, hgC, hRi]; rfl)
          have HRR := hid hRi
          clear hRi hgB hgC
          go_enter Try.func75, Try.ntmps75
          go_wp2
          refine wp_region_step (.rd 0 (.rd 1 (.rd 2 (.rd 3 (.rd 4 (.rd 5 (.rd 6 (.rd 7 (.rd 8 (.rd 9 (.rd 10 (.rd 11 (.rd 12 (.rd 13 (.rd 14 (.rd 15 (.rd 16 (.ac 17 (.ac 18 .done))))))))))))))))))) (by kernel_rfl) (by kernel_rfl) (fun _ _ d _ _ h => by cases d <;> exact h) (by simp only [Ord.map, nthOp, List.append]; rfl) ?_
          intro d0
          repeat' (first | (refine step_read (by rfl) (fun K hK => ?_); go_big_quiet_op; refine hK _ ?_; clear hK K) | (refine step_act (by rfl) (fun K hK => ?_); go_wp2_with (first | fail); refine ⟨_, Ext.refl _, (by repeat (first | (with_reducible exact Ext.refl _) | (with_reducible refine Ext.undrew ?_) | (with_reducible refine Ext.grow ?_ _) | (with_reducible refine Ext.drew ?_) | (with_reducible refine Ext.drewN ?_ _) | (with_reducible refine Ext.alloc ?_ _) | (with_reducible assumption) | ((with_reducible refine Ext.setCell ?_ ?_ _); rotate_left; (first | exact Nat.le_refl _ | ((try dsimp only); (try simp only [World.size_alloc, grow_size, World.size_setCell]); omega))))), ?_⟩) | refine step_br ?_ ?_)
          all_goals refine step_nil ?_
          go_wp2_with (first | (go_at_call 84; with_reducible refine (HK.out _).mono ?_; rintro e w1 ⟨rfl, rfl⟩) | (go_at_call 85; refine (rright15 _ _ _ _ _).mono ?_; rw [HRR.out]; rintro e w1 ⟨rfl, hy⟩; obtain ⟨dr, rfl⟩ := hy.grown; clear hy))
          exact bodyPost_ret (v := .tuple #[.agg #[.int .i64 x0, .int .i64 x1, .int .i64 (256 * x2 + x3 - 65536), .int .i64 (0)], .int .i64 0]) (by simp [results, Try.results75, go_sem, *]) rfl ⟨HE.out.symm ▸ rfl, (by repeat (first | (with_reducible exact Ext.refl _) | (with_reducible refine Ext.undrew ?_) | (with_reducible refine Ext.grow ?_ _) | (with_reducible refine Ext.drew ?_) | (with_reducible refine Ext.drewN ?_ _) | (with_reducible refine Ext.alloc ?_ _) | (with_reducible assumption) | ((with_reducible refine Ext.setCell ?_ ?_ _); rotate_left; (first | exact Nat.le_refl _ | ((try dsimp only); (try simp only [World.size_alloc, grow_size, World.size_setCell]); omega)))))⟩
      · have hgB : gB x0 x2 x3 = 256 * x2 + x3 := by rw [hgB0]; unfold sgn16; rw [if_neg (by omega)]; omega
        clear hgB0
        cases hRi : rightI x0 x1 (256 * x2 + x3) (0) with
        | false =>
          have HE : Hid (getR x0 x1 x2 x3 = .tuple #[.agg #[.int .i64 0, .int .i64 0, .int .i64 0, .int .i64 0], .int .i64 151]) := hid (by unfold getR; rw [hgB, hgC, hRi]; rfl)
          have HRR := hid hRi
          clear hRi hgB hgC
          go_enter Try.func75, Try.ntmps75
          go_wp2
          refine wp_region_step (.rd 0 (.rd 1 (.rd 2 (.rd 3 (.rd 4 (.rd 5 (.rd 6 (.rd 7 (.rd 8 (.rd 9 (.rd 10 (.rd 11 (.rd 12 (.rd 13 (.rd 14 (.rd 15 (.rd 16 (.ac 17 (.ac 18 .done))))))))))))))))))) (by kernel_rfl) (by kernel_rfl) (fun _ _ d _ _ h => by cases d <;> exact h) (by simp only [Ord.map, nthOp, List.append]; rfl) ?_
          intro d0
          repeat' (first | (refine step_read (by rfl) (fun K hK => ?_); go_big_quiet_op; refine hK _ ?_; clear hK K) | (refine step_act (by rfl) (fun K hK => ?_); go_wp2_with (first | fail); refine ⟨_, Ext.refl _, (by repeat (first | (with_reducible exact Ext.refl _) | (with_reducible refine Ext.undrew ?_) | (with_reducible refine Ext.grow ?_ _) | (with_reducible refine Ext.drew ?_) | (with_reducible refine Ext.drewN ?_ _) | (with_reducible refine Ext.alloc ?_ _) | (with_reducible assumption) | ((with_reducible refine Ext.setCell ?_ ?_ _); rotate_left; (first | exact Nat.le_refl _ | ((try dsimp only); (try simp only [World.size_alloc, grow_size, World.size_setCell]); omega))))), ?_⟩) | refine step_br ?_ ?_)
          all_goals refine step_nil ?_
          go_wp2_with (first | (go_at_call 84; with_reducible refine (HK.out _).mono ?_; rintro e w1 ⟨rfl, rfl⟩) | (go_at_call 85; refine (rright15 _ _ _ _ _).mono ?_; rw [HRR.out]; rintro e w1 ⟨rfl, hy⟩; obtain ⟨dr, rfl⟩ := hy.grown; clear hy))
          exact bodyPost_ret (v := .tuple #[.agg #[.int .i64 0, .int .i64 0, .int .i64 0, .int .i64 0], .int .i64 151]) (by simp [results, Try.results75, go_sem, *]) rfl ⟨HE.out.symm ▸ rfl, (by repeat (first | (with_reducible exact Ext.refl _) | (with_reducible refine Ext.undrew ?_) | (with_reducible refine Ext.grow ?_ _) | (with_reducible refine Ext.drew ?_) | (with_reducible refine Ext.drewN ?_ _) | (with_reducible refine Ext.alloc ?_ _) | (with_reducible assumption) | ((with_reducible refine Ext.setCell ?_ ?_ _); rotate_left; (first | exact Nat.le_refl _ | ((try dsimp only); (try simp only [World.size_alloc, grow_size, World.size_setCell]); omega)))))⟩
        | true =>
          have HE : Hid (getR x0 x1 x2 x3 = .tuple #[.agg #[.int .i64 x0, .int .i64 x1, .int .i64 (256 * x2 + x3), .int .i64 (0)], .int .i64 0]) := hid (by unfold getR; rw [hgB, hgC, hRi]; rfl)
          have HRR := hid hRi
          clear hRi hgB hgC
          go_enter Try.func75, Try.ntmps75
          go_wp2
          refine wp_region_step (.rd 0 (.rd 1 (.rd 2 (.rd 3 (.rd 4 (.rd 5 (.rd 6 (.rd 7 (.rd 8 (.rd 9 (.rd 10 (.rd 11 (.rd 12 (.rd 13 (.rd 14 (.rd 15 (.rd 16 (.ac 17 (.ac 18 .done))))))))))))))))))) (by kernel_rfl) (by kernel_rfl) (fun _ _ d _ _ h => by cases d <;> exact h) (by simp only [Ord.map, nthOp, List.append]; rfl) ?_
          intro d0
          repeat' (first | (refine step_read (by rfl) (fun K hK => ?_); go_big_quiet_op; refine hK _ ?_; clear hK K) | (refine step_act (by rfl) (fun K hK => ?_); go_wp2_with (first | fail); refine ⟨_, Ext.refl _, (by repeat (first | (with_reducible exact Ext.refl _) | (with_reducible refine Ext.undrew ?_) | (with_reducible refine Ext.grow ?_ _) | (with_reducible refine Ext.drew ?_) | (with_reducible refine Ext.drewN ?_ _) | (with_reducible refine Ext.alloc ?_ _) | (with_reducible assumption) | ((with_reducible refine Ext.setCell ?_ ?_ _); rotate_left; (first | exact Nat.le_refl _ | ((try dsimp only); (try simp only [World.size_alloc, grow_size, World.size_setCell]); omega))))), ?_⟩) | refine step_br ?_ ?_)
          all_goals refine step_nil ?_
          go_wp2_with (first | (go_at_call 84; with_reducible refine (HK.out _).mono ?_; rintro e w1 ⟨rfl, rfl⟩) | (go_at_call 85; refine (rright15 _ _ _ _ _).mono ?_; rw [HRR.out]; rintro e w1 ⟨rfl, hy⟩; obtain ⟨dr, rfl⟩ := hy.grown; clear hy))
          exact bodyPost_ret (v := .tuple #[.agg #[.int .i64 x0, .int .i64 x1, .int .i64 (256 * x2 + x3), .int .i64 (0)], .int .i64 0]) (by simp [results, Try.results75, go_sem, *]) rfl ⟨HE.out.symm ▸ rfl, (by repeat (first | (with_reducible exact Ext.refl _) | (with_reducible refine Ext.undrew ?_) | (with_reducible refine Ext.grow ?_ _) | (with_reducible refine Ext.drew ?_) | (with_reducible refine Ext.drewN ?_ _) | (with_reducible refine Ext.alloc ?_ _) | (with_reducible assumption) | ((with_reducible refine Ext.setCell ?_ ?_ _); rotate_left; (first | exact Nat.le_refl _ | ((try dsimp only); (try simp only [World.size_alloc, grow_size, World.size_setCell]); omega)))))⟩
    · have e119 : ((chAt (kstr (kd x0)) 1 : Int) == 119) = false := by
        have : ¬ chAt (kstr (kd x0)) 1 = 119 := by rw [hwk]; exact hwd
        simp
        omega
      have hgC : gC x0 x3 = x3 := by unfold gC; rw [if_neg hwd]
      have hgB : gB x0 x2 x3 = x2 := by unfold gB; rw [if_neg hwd]
      generalize kstr (kd x0) = s at hK i1 e119 he
      have HK := hid hK
      clear hs3 hwk hK hwd hk hr
      cases hRi : rightI x0 x1 (x2) (x3) with
      | false =>
        have HE : Hid (getR x0 x1 x2 x3 = .tuple #[.agg #[.int .i64 0, .int .i64 0, .int .i64 0, .int .i64 0], .int .i64 151]) := hid (by unfold getR; rw [hgB, hgC, hRi]; rfl)
        have HRR := hid hRi
        clear hRi hgB hgC
        go_enter Try.func75, Try.ntmps75
        go_wp2
        refine wp_region_step (.rd 0 (.rd 1 (.rd 2 (.rd 3 (.rd 4 (.rd 5 (.rd 6 (.rd 7 (.rd 8 (.rd 9 (.rd 10 (.rd 11 (.rd 12 (.rd 13 (.rd 14 (.rd 15 (.rd 16 (.ac 17 (.ac 18 .done))))))))))))))))))) (by kernel_rfl) (by kernel_rfl) (fun _ _ d _ _ h => by cases d <;> exact h) (by simp only [Ord.map, nthOp, List.append]; rfl) ?_
        intro d0
        repeat' (first | (refine step_read (by rfl) (fun K hK => ?_); go_big_quiet_op; refine hK _ ?_; clear hK K) | (refine step_act (by rfl) (fun K hK => ?_); go_wp2_with (first | fail); refine ⟨_, Ext.refl _, (by repeat (first | (with_reducible exact Ext.refl _) | (with_reducible refine Ext.undrew ?_) | (with_reducible refine Ext.grow ?_ _) | (with_reducible refine Ext.drew ?_) | (with_reducible refine Ext.drewN ?_ _) | (with_reducible refine Ext.alloc ?_ _) | (with_reducible assumption) | ((with_reducible refine Ext.setCell ?_ ?_ _); rotate_left; (first | exact Nat.le_refl _ | ((try dsimp only); (try simp only [World.size_alloc, grow_size, World.size_setCell]); omega))))), ?_⟩) | refine step_br ?_ ?_)
        all_goals refine step_nil ?_
        go_wp2_with (first | (go_at_call 84; with_reducible refine (HK.out _).mono ?_; rintro e w1 ⟨rfl, rfl⟩) | (go_at_call 85; refine (rright15 _ _ _ _ _).mono ?_; rw [HRR.out]; rintro e w1 ⟨rfl, hy⟩; obtain ⟨dr, rfl⟩ := hy.grown; clear hy))
        exact bodyPost_ret (v := .tuple #[.agg #[.int .i64 0, .int .i64 0, .int .i64 0, .int .i64 0], .int .i64 151]) (by simp [results, Try.results75, go_sem, *]) rfl ⟨HE.out.symm ▸ rfl, (by repeat (first | (with_reducible exact Ext.refl _) | (with_reducible refine Ext.undrew ?_) | (with_reducible refine Ext.grow ?_ _) | (with_reducible refine Ext.drew ?_) | (with_reducible refine Ext.drewN ?_ _) | (with_reducible refine Ext.alloc ?_ _) | (with_reducible assumption) | ((with_reducible refine Ext.setCell ?_ ?_ _); rotate_left; (first | exact Nat.le_refl _ | ((try dsimp only); (try simp only [World.size_alloc, grow_size, World.size_setCell]); omega)))))⟩
      | true =>
        have HE : Hid (getR x0 x1 x2 x3 = .tuple #[.agg #[.int .i64 x0, .int .i64 x1, .int .i64 (x2), .int .i64 (x3)], .int .i64 0]) := hid (by unfold getR; rw [hgB, hgC, hRi]; rfl)
        have HRR := hid hRi
        clear hRi hgB hgC
        go_enter Try.func75, Try.ntmps75
        go_wp2
        refine wp_region_step (.rd 0 (.rd 1 (.rd 2 (.rd 3 (.rd 4 (.rd 5 (.rd 6 (.rd 7 (.rd 8 (.rd 9 (.rd 10 (.rd 11 (.rd 12 (.rd 13 (.rd 14 (.rd 15 (.rd 16 (.ac 17 (.ac 18 .done))))))))))))))))))) (by kernel_rfl) (by kernel_rfl) (fun _ _ d _ _ h => by cases d <;> exact h) (by simp only [Ord.map, nthOp, List.append]; rfl) ?_
        intro d0
        repeat' (first | (refine step_read (by rfl) (fun K hK => ?_); go_big_quiet_op; refine hK _ ?_; clear hK K) | (refine step_act (by rfl) (fun K hK => ?_); go_wp2_with (first | fail); refine ⟨_, Ext.refl _, (by repeat (first | (with_reducible exact Ext.refl _) | (with_reducible refine Ext.undrew ?_) | (with_reducible refine Ext.grow ?_ _) | (with_reducible refine Ext.drew ?_) | (with_reducible refine Ext.drewN ?_ _) | (with_reducible refine Ext.alloc ?_ _) | (with_reducible assumption) | ((with_reducible refine Ext.setCell ?_ ?_ _); rotate_left; (first | exact Nat.le_refl _ | ((try dsimp only); (try simp only [World.size_alloc, grow_size, World.size_setCell]); omega))))), ?_⟩) | refine step_br ?_ ?_)
        all_goals refine step_nil ?_
        go_wp2_with (first | (go_at_call 84; with_reducible refine (HK.out _).mono ?_; rintro e w1 ⟨rfl, rfl⟩) | (go_at_call 85; refine (rright15 _ _ _ _ _).mono ?_; rw [HRR.out]; rintro e w1 ⟨rfl, hy⟩; obtain ⟨dr, rfl⟩ := hy.grown; clear hy))
        exact bodyPost_ret (v := .tuple #[.agg #[.int .i64 x0, .int .i64 x1, .int .i64 (x2), .int .i64 (x3)], .int .i64 0]) (by simp [results, Try.results75, go_sem, *]) rfl ⟨HE.out.symm ▸ rfl, (by repeat (first | (with_reducible exact Ext.refl _) | (with_reducible refine Ext.undrew ?_) | (with_reducible refine Ext.grow ?_ _) | (with_reducible refine Ext.drew ?_) | (with_reducible refine Ext.drewN ?_ _) | (with_reducible refine Ext.alloc ?_ _) | (with_reducible assumption) | ((with_reducible refine Ext.setCell ?_ ?_ _); rotate_left; (first | exact Nat.le_refl _ | ((try dsimp only); (try simp only [World.size_alloc, grow_size, World.size_setCell]); omega)))))⟩

end Go.Proofs.Ytgldlkoohfclpaa

namespace Go.Proofs.Ytgldlkoohfclpaa
set_option maxRecDepth 100000
set_option linter.unusedSimpArgs false
set_option linter.unusedVariables false
open Go.RowKit


theorem RdB.of {w : World} {q o : Nat} {l : List Int} (hq : q < w.heap.size) (h : ∀ j (hj : j < l.length), w.cell? ⟨q, o + j, none⟩ = some (.int .u8 l[j])) : RdB w (some ⟨q, o, none⟩) l := fun _ => ⟨q, o, rfl, hq, h⟩
theorem Ext.owned {a w w' : World} {e : TypeId} {size n : Nat} {v : Value} {xs : List Value} (h : Ext a w) (hown : w.ownsRow a.heap.size e size v n xs) (hg : w.grownBy w' v.ownBlock) : Ext a w' :=
  Below.grown h hg h.size fun k hk => (hown.lt k hk).1
theorem OwnB.more {w : World} {base : Nat} {v : Value} {l m : List Int} (h : w.ownsRow base 5 1 v (l.length + m.length) (bvals l ++ bvals m)) : OwnB w base v (l ++ m) := by
  unfold OwnB
  rw [List.length_append, bvals_append]
  exact h
theorem OwnB.keptExt {w w' : World} {base : Nat} {v : Value} {l : List Int} (h : OwnB w base v l) (x : Ext w w') : OwnB w' base v l := by
  refine ⟨h.1, ?_⟩
  rcases h.2 with h0 | ⟨g, cap, cur, hv, hb, hg, r⟩
  · exact .inl h0
  · exact .inr ⟨g, cap, cur, hv, hb, by rw [x.block g (Array.getElem?_eq_some_iff.1 hg).1]; exact hg, r⟩
theorem OwnB.only {S : Nat → Prop} {w w' : World} {base : Nat} {v : Value} {l : List Int} (h : OwnB w base v l) (x : Only S w w') (hs : ∀ g, v.ownBlock = some g → ¬ S g) : OwnB w' base v l := by
  refine ⟨h.1, ?_⟩
  rcases h.2 with h0 | ⟨g, cap, cur, hv, hb, hg, r⟩
  · exact .inl h0
  · exact .inr ⟨g, cap, cur, hv, hb, by rw [x.block g (Array.getElem?_eq_some_iff.1 hg).1 (hs g (by rw [hv]; rfl))]; exact hg, r⟩
/-- What a call has laid down just now. -/
theorem OwnB.new (w : World) (base : Nat) (l : List Int) (n : Nat) (hn : l.length = n) (hl : n ≤ maxLen) (hb : base ≤ w.heap.size) : OwnB (w.alloc (.cells (bvals l).toArray 5)) base (.slice (some ⟨w.heap.size, 0, none⟩) n n) l := by
  subst hn
  refine ⟨by simp [bvals], .inr ⟨w.heap.size, l.length, (bvals l).toArray, rfl, hb, heap_alloc_new w _, Nat.le_refl _, hl, by simp [bvals], by simp [bvals, List.take_of_length_le]⟩⟩
/-- A block that is not of cells is not its own row. -/
theorem OwnB.notIter {w : World} {base k : Nat} {v : Value} {l : List Int} {s : ByteArray} {i : Nat} (h : OwnB w base v l) (hk : w.heap[k]? = some (.stringIter s i)) : ∀ g, v.ownBlock = some g → ¬ g = k := by
  rintro g hg rfl
  rcases h.2 with ⟨h0, _⟩ | ⟨g', cap, cur, hv, _, hc, _⟩
  · rw [h0] at hg; cases hg
  · rw [hv] at hg
    simp only [Value.ownBlock, Option.some.injEq] at hg
    subst hg
    rw [hk] at hc
    cases hc
theorem strOf_bytes1 : True := trivial

/-- The bytes of one part. -/
def pieceP (ch : Nat) (n : Int) : List Int := if ch = 119 then [n / 256 % 256, n % 256] else if ch = 118 then [] else [n % 256]
def preP (op : Int) (s : ByteArray) (v : Nat → Int) (i : Nat) : List Int := [op % 256] ++ (List.range i).flatMap fun j => pieceP (chAt s j) (v j)
theorem preP_succ (op : Int) (s : ByteArray) (v : Nat → Int) (i : Nat) : preP op s v (i + 1) = preP op s v i ++ pieceP (chAt s i) (v i) := by
  unfold preP
  rw [List.range_succ, List.flatMap_append, List.append_assoc]
  simp
theorem pieceP_le (ch : Nat) (n : Int) : (pieceP ch n).length ≤ 2 := by unfold pieceP; split <;> (try split) <;> simp
theorem preP_le (op : Int) (s : ByteArray) (v : Nat → Int) : ∀ i, (preP op s v i).length ≤ 1 + 2 * i
  | 0 => by simp [preP]
  | i + 1 => by
    rw [preP_succ, List.length_append]
    have := preP_le op s v i
    have := pieceP_le (chAt s i) (v i)
    omega
theorem preP_pos (op : Int) (s : ByteArray) (v : Nat → Int) (i : Nat) : 0 < (preP op s v i).length := by simp [preP]
/-- The bytes of an instruction. -/
def putI (op a b c : Int) : List Int := if kd op = 2 ∨ kd op = 5 then [op % 256, a % 256, b / 256 % 256, b % 256] else [op % 256, a % 256, b % 256, c % 256]
theorem putI_length (op a b c : Int) : (putI op a b c).length = 4 := by unfold putI; split <;> rfl
theorem putI_pre {op a b c : Int} (h : rightI op a b c = true) : preP op (kstr (kd op)) (v3 a b c) (kstr (kd op)).size = putI op a b c := by
  unfold rightI at h
  unfold putI
  rcases kd_cases op with hk | hk | hk | hk | hk | hk | hk | hk <;> rw [hk] at h ⊢
  · simp [kA] at h
  · have e0 : chAt (kstr 1) 0 = 45 := by decide
    have e1 : chAt (kstr 1) 1 = 45 := by decide
    have e2 : chAt (kstr 1) 2 = 45 := by decide
    have es : (kstr 1).size = 3 := by decide
    rw [es]
    simp [preP, List.range_succ, e0, e1, e2, pieceP, v3]
  · have e0 : chAt (kstr 2) 0 = 114 := by decide
    have e1 : chAt (kstr 2) 1 = 119 := by decide
    have e2 : chAt (kstr 2) 2 = 118 := by decide
    have es : (kstr 2).size = 3 := by decide
    rw [es]
    simp [preP, List.range_succ, e0, e1, e2, pieceP, v3]
  · have e0 : chAt (kstr 3) 0 = 114 := by decide
    have e1 : chAt (kstr 3) 1 = 114 := by decide
    have e2 : chAt (kstr 3) 2 = 45 := by decide
    have es : (kstr 3).size = 3 := by decide
    rw [es]
    simp [preP, List.range_succ, e0, e1, e2, pieceP, v3]
  · have e0 : chAt (kstr 4) 0 = 114 := by decide
    have e1 : chAt (kstr 4) 1 = 114 := by decide
    have e2 : chAt (kstr 4) 2 = 114 := by decide
    have es : (kstr 4).size = 3 := by decide
    rw [es]
    simp [preP, List.range_succ, e0, e1, e2, pieceP, v3]
  · have e0 : chAt (kstr 5) 0 = 45 := by decide
    have e1 : chAt (kstr 5) 1 = 119 := by decide
    have e2 : chAt (kstr 5) 2 = 118 := by decide
    have es : (kstr 5).size = 3 := by decide
    rw [es]
    simp [preP, List.range_succ, e0, e1, e2, pieceP, v3]
  · have e0 : chAt (kstr 6) 0 = 114 := by decide
    have e1 : chAt (kstr 6) 1 = 114 := by decide
    have e2 : chAt (kstr 6) 2 = 105 := by decide
    have es : (kstr 6).size = 3 := by decide
    rw [es]
    simp [preP, List.range_succ, e0, e1, e2, pieceP, v3]
  · have e0 : chAt (kstr 7) 0 = 105 := by decide
    have e1 : chAt (kstr 7) 1 = 45 := by decide
    have e2 : chAt (kstr 7) 2 = 45 := by decide
    have es : (kstr 7).size = 3 := by decide
    rw [es]
    simp [preP, List.range_succ, e0, e1, e2, pieceP, v3]
end Go.Proofs.Ytgldlkoohfclpaa

namespace Go.Proofs.Ytgldlkoohfclpaa
set_option maxRecDepth 100000
set_option linter.unusedSimpArgs false
set_option linter.unusedVariables false
open Go.RowKit


/-- An instruction. -/
structure I4 where
  op : Int
  a : Int
  b : Int
  c : Int
def I4.cells (x : I4) : List Value := [.int .i64 x.op, .int .i64 x.a, .int .i64 x.b, .int .i64 x.c]
theorem I4.len (x : I4) : x.cells.length = 4 := rfl
theorem I4.one (x : I4) : ∀ v ∈ x.cells, v.oneCell' = true := by
  intro v hv
  simp only [I4.cells, List.mem_cons, List.not_mem_nil, or_false] at hv
  rcases hv with rfl | rfl | rfl | rfl <;> rfl
def byK (l : List Int) (k j : Nat) : Int := l.getD (4 * k + j) 0
/-- The instruction of a word. -/
def insK (l : List Int) (k : Nat) : I4 := ⟨byK l k 0, byK l k 1, gB (byK l k 0) (byK l k 2) (byK l k 3), gC (byK l k 0) (byK l k 3)⟩
def okK (l : List Int) (k : Nat) : Bool := rightI (insK l k).op (insK l k).a (insK l k).b (insK l k).c
def rowI (M : Nat → I4) (n : Nat) : List Value := (List.range n).flatMap fun i => (M i).cells
theorem rowI_succ (M : Nat → I4) (n : Nat) : rowI M (n + 1) = rowI M n ++ (M n).cells := by simp [rowI, List.range_succ, List.flatMap_append]
theorem rowI_length (M : Nat → I4) : ∀ n, (rowI M n).length = n * 4
  | 0 => rfl
  | n + 1 => by rw [rowI_succ, List.length_append, rowI_length M n, I4.len]; omega
theorem rowI_at (M : Nat → I4) : ∀ (n i j : Nat), i < n → j < 4 → (rowI M n)[i * 4 + j]? = (M i).cells[j]?
  | 0, _, _, h, _ => absurd h (by omega)
  | n + 1, i, j, hi, hj => by
    rw [rowI_succ]
    by_cases e : i < n
    · rw [List.getElem?_append_left (by rw [rowI_length]; omega)]
      exact rowI_at M n i j e hj
    · obtain rfl : i = n := by omega
      rw [List.getElem?_append_right (by rw [rowI_length]; omega), rowI_length]
      congr 1
      omega
/-- Instructions in memory, to be read. -/
def RdI (w : World) (A : Option Addr) (n : Nat) (M : Nat → I4) : Prop := 0 < n → ∃ b o, A = some ⟨b, o, none⟩ ∧ b < w.heap.size ∧ ∀ i, i < n → w.cell? ⟨b, o + i * 4, none⟩ = some (.int .i64 (M i).op) ∧ w.cell? ⟨b, o + i * 4 + 1, none⟩ = some (.int .i64 (M i).a) ∧ w.cell? ⟨b, o + i * 4 + 2, none⟩ = some (.int .i64 (M i).b) ∧ w.cell? ⟨b, o + i * 4 + 3, none⟩ = some (.int .i64 (M i).c)
theorem RdI.ext {w w' : World} {A : Option Addr} {n : Nat} {M : Nat → I4} (h : RdI w A n M) (x : Ext w w') : RdI w' A n M := fun h0 => by
  obtain ⟨b, o, hA, hb, hc⟩ := h h0
  exact ⟨b, o, hA, Nat.lt_of_lt_of_le hb x.size, fun i hi => by rw [x.cells b _ hb, x.cells b _ hb, x.cells b _ hb, x.cells b _ hb]; exact hc i hi⟩
theorem info_ins : (Try.prog.info? 85).map (fun i => (i.zero, i.size, i.bytes)) = some (some (.agg #[.int .i64 0, .int .i64 0, .int .i64 0, .int .i64 0]), 4, 32) := by kernel_rfl
theorem owns_ins {w : World} {base : Nat} {e : TypeId} {v : Value} {k : Nat} {M : Nat → I4} (h : w.ownsRow base e 4 v k (rowI M k)) : ∃ A ca, v = .slice A k ca ∧ RdI w A k M ∧ k ≤ ca ∧ (k = 0 ∨ ∃ q, A = some ⟨q, 0, none⟩ ∧ base ≤ q) ∧ ca ≤ maxLen := by
  rcases h.2 with ⟨rfl, rfl⟩ | ⟨g, cap, cur, rfl, hb, hg, hn, hm, hs, ht⟩
  · exact ⟨none, 0, rfl, fun h0 => absurd h0 (by omega), Nat.le_refl _, .inl rfl, by decide⟩
  · refine ⟨some ⟨g, 0, none⟩, cap, rfl, fun h0 => ⟨g, 0, rfl, (Array.getElem?_eq_some_iff.1 hg).1, fun i hi => ?_⟩, hn, .inr ⟨g, rfl, hb⟩, hm⟩
    have key : ∀ j v, j < 4 → (M i).cells[j]? = some v → w.cell? ⟨g, 0 + i * 4 + j, none⟩ = some v := fun j v hj hv => by
      rw [cell_of_row w g _ cur e (0, 0) hg]
      have h1 := rowI_at M k i j hi hj
      rw [← ht, hv, List.getElem?_take, if_pos (by omega)] at h1
      rw [Nat.zero_add]
      simpa using h1
    exact ⟨key 0 _ (by omega) rfl, key 1 _ (by omega) rfl, key 2 _ (by omega) rfl, key 3 _ (by omega) rfl⟩
theorem owns_nil (w : World) (base : Nat) (e : TypeId) (size : Nat) : w.ownsRow base e size (.slice none 0 0) 0 [] := ⟨by simp, .inl ⟨rfl, rfl⟩⟩
theorem ownsExt {w w' : World} {base : Nat} {e : TypeId} {size n : Nat} {v : Value} {xs : List Value} (h : w.ownsRow base e size v n xs) (x : Ext w w') : w'.ownsRow base e size v n xs := by
  refine ⟨h.1, ?_⟩
  rcases h.2 with h0 | ⟨g, cap, cur, hv, hb, hg, r⟩
  · exact .inl h0
  · exact .inr ⟨g, cap, cur, hv, hb, by rw [x.block g (Array.getElem?_eq_some_iff.1 hg).1]; exact hg, r⟩
/-- Four bytes, out of many. -/
theorem RdB.word {w : World} {b o : Nat} {l : List Int} {k : Nat} (h : RdB w (some ⟨b, o, none⟩) l) (hk : 4 * k + 4 ≤ l.length) : RdB w (some ⟨b, o + 4 * k, none⟩) [byK l k 0, byK l k 1, byK l k 2, byK l k 3] := fun _ => by
  obtain ⟨b', o', hA, hb, hc⟩ := h (by omega)
  cases hA
  refine ⟨b, o + 4 * k, rfl, hb, fun j hj => ?_⟩
  have hj4 : j < 4 := by simpa using hj
  have h1 := hc (4 * k + j) (by omega)
  rw [← Nat.add_assoc] at h1
  rw [h1]
  match j, hj with
  | 0, _ => simp [byK, List.getD_eq_getElem?_getD, List.getElem?_eq_getElem (show 4 * k < l.length by omega)]
  | 1, _ => simp [byK, List.getD_eq_getElem?_getD, List.getElem?_eq_getElem (show 4 * k + 1 < l.length by omega)]
  | 2, _ => simp [byK, List.getD_eq_getElem?_getD, List.getElem?_eq_getElem (show 4 * k + 2 < l.length by omega)]
  | 3, _ => simp [byK, List.getD_eq_getElem?_getD, List.getElem?_eq_getElem (show 4 * k + 3 < l.length by omega)]
theorem byK_bd {l : List Int} (h : byteL l) (k j : Nat) : 0 ≤ byK l k j ∧ byK l k j ≤ 255 := by
  unfold byK
  rw [List.getD_eq_getElem?_getD]
  by_cases hj : 4 * k + j < l.length
  · rw [List.getElem?_eq_getElem hj]
    exact h _ (List.getElem_mem hj)
  · rw [List.getElem?_eq_none (by omega)]
    decide
theorem getR_ok {l : List Int} {k : Nat} (h : okK l k = true) : getR (byK l k 0) (byK l k 1) (byK l k 2) (byK l k 3) = .tuple #[.agg #[.int .i64 (insK l k).op, .int .i64 (insK l k).a, .int .i64 (insK l k).b, .int .i64 (insK l k).c], .int .i64 0] := by
  unfold getR
  exact if_pos h
theorem getR_bad {l : List Int} {k : Nat} (h : okK l k = false) : getR (byK l k 0) (byK l k 1) (byK l k 2) (byK l k 3) = .tuple #[.agg #[.int .i64 0, .int .i64 0, .int .i64 0, .int .i64 0], .int .i64 151] := by
  unfold getR
  exact if_neg (fun e => by have h' : okK l k = true := e; rw [h] at h'; cases h')
end Go.Proofs.Ytgldlkoohfclpaa

namespace Go.Proofs.Ytgldlkoohfclpaa
set_option maxRecDepth 100000
set_option linter.unusedSimpArgs false
set_option linter.unusedVariables false
open Go.RowKit


/-- What is told of many bytes: how many are right, and how it ends. -/
def AllPost (l : List Int) (w : World) (e : Ending) (w' : World) : Prop := Ext w w' ∧ ∃ K, (∀ j, j < K → okK l j = true) ∧ 4 * K ≤ l.length ∧
  ((4 * K = l.length ∧ ∃ A ca, e = .returned (.tuple #[.slice A K ca, .int .i64 l.length, .int .i64 0]) ∧ RdI w' A K (insK l)) ∨
   (4 * K + 4 ≤ l.length ∧ okK l K = false ∧ e = .returned (.tuple #[.slice none 0 0, .int .i64 (4 * (K : Int)), .int .i64 151])) ∨
   (4 * K < l.length ∧ l.length < 4 * K + 4 ∧ e = .returned (.tuple #[.slice none 0 0, .int .i64 (4 * (K : Int)), .int .i64 1])))
set_option maxRecDepth 100000 in
set_option maxHeartbeats 4000000 in
theorem all_ (A : Option Addr) (ca : Nat) (l : List Int) (w : World) (hA : RdB w A l) (hbl : byteL l) (hlc : l.length ≤ ca) (hcm : ca ≤ maxLen) (hn : l.length ≤ 10000) :
    Calls Try.prog 68 #[.slice A l.length ca] w fun e w' => AllPost l w e w' := by
  obtain ⟨i0, hi0, hz0, hz1, hz2⟩ := info_parts info_ins
  have HI0 := hid hi0
  have HA := hid hA
  have HB := hid hbl
  clear hA hbl
  have hml : ca ≤ 9223372036854775807 := by unfold maxLen at hcm; omega
  go_enter Try.func68, Try.ntmps68
  go_wp2
  go_loopw [5, 6] (fun v at_ wr => ∃ k : Nat, 4 * k ≤ l.length ∧ at_ = .int .i64 (4 * (k : Int)) ∧ Hid (wr.ownsRow w.heap.size 85 4 v k (rowI (insK l) k)) ∧ Hid (∀ j, j < k → okK l j = true) ∧ Ext w wr) (fun _ at_ _ => l.length - (intOf at_).toNat)
  case atStart => exact ⟨0, Nat.zero_le _, rfl, hid (owns_nil _ _ _ _), hid fun j hj => absurd hj (by omega), (by repeat (first | (with_reducible exact Ext.refl _) | (with_reducible refine Ext.undrew ?_) | (with_reducible refine Ext.grow ?_ _) | (with_reducible refine Ext.drew ?_) | (with_reducible refine Ext.drewN ?_ _) | (with_reducible refine Ext.alloc ?_ _) | (with_reducible assumption) | ((with_reducible refine Ext.setCell ?_ ?_ _); rotate_left; (first | exact Nat.le_refl _ | ((try dsimp only); (try simp only [World.size_alloc, grow_size, World.size_setCell]); omega)))))⟩
  case round =>
    obtain ⟨k, hk, rfl, hown, hall, hx⟩ := hrel
    have hk0 : (0 : Int) ≤ 4 * (k : Int) := by omega
    by_cases hlt : 4 * k < l.length
    · obtain ⟨b, o, rfl, hb, _⟩ := HA.out (by omega)
      have hlt' : 4 * (k : Int) < (l.length : Int) := by omega
      by_cases hf : 4 * k + 4 ≤ l.length
      · have hf' : 4 * (k : Int) + 4 ≤ (l.length : Int) := by omega
        have HW := hid (RdB.word ((HA.out).ext hx) hf)
        have HBK := hid (byK_bd HB.out k)
        cases hok : okK l k with
        | true =>
          have HG := hid (getR_ok hok)
          have HALL := hid (upto_snoc hall.out hok)
          clear hok hall
          go_wp2_with (first | (go_at_call 80; refine Calls.mono (get_all b (o + 4 * k) (ca - 4 * k) (byK l k 0) (byK l k 1) (byK l k 2) (byK l k 3) _ HW.out (by omega) (by omega) (HBK.out 0) (HBK.out 1) (HBK.out 2) (HBK.out 3)) ?_; rw [HG.out]; rintro e w1 ⟨rfl, hy⟩; obtain ⟨d, rfl⟩ := hy.grown; clear hy) | (at_builtin; refine wpList_append_own _ rfl _ _ 81 rfl w.heap.size 85 i0 _ 4 32 Try.underlying81 hi0 hz0 hz1 hz2 rfl (by decide) _ _ _ rfl (World.ownsRow.alloc (World.ownsRow.alloc (ownsExt hown.out (Ext.grow (Ext.refl _) d)) _) _) _ 1 1 (insK l k).cells rfl rfl ?c1 (I4.one _) ?c3 ?c4 ?c5 ?_))
          case c1 =>
            intro j u hj
            rw [Addr.add_lit]
            have hj4 : j = 0 ∨ j = 1 ∨ j = 2 ∨ j = 3 := by
              have h := (List.getElem?_eq_some_iff.1 hj).1
              rw [I4.len] at h
              omega
            rcases hj4 with rfl | rfl | rfl | rfl <;> (simp [I4.cells] at hj; subst hj; simp [go_sem])
          case c3 => unfold maxLen; omega
          case c4 => omega
          case c5 => have := hx.size; simp [go_sem]; omega
          intro v' w1 hown1 hgrow _
          rw [← rowI_succ] at hown1
          have hx1 : Ext w w1 := Ext.owned (by repeat (first | (with_reducible exact Ext.refl _) | (with_reducible refine Ext.undrew ?_) | (with_reducible refine Ext.grow ?_ _) | (with_reducible refine Ext.drew ?_) | (with_reducible refine Ext.drewN ?_ _) | (with_reducible refine Ext.alloc ?_ _) | (with_reducible assumption) | ((with_reducible refine Ext.setCell ?_ ?_ _); rotate_left; (first | exact Nat.le_refl _ | ((try dsimp only); (try simp only [World.size_alloc, grow_size, World.size_setCell]); omega))))) (World.ownsRow.alloc (World.ownsRow.alloc (ownsExt hown.out (Ext.grow (Ext.refl _) d)) _) _) hgrow
          have HQ := hid (And.intro hown1 hx1)
          clear hown1 hgrow hx1
          go_wp2
          go_roundw
          case rel => exact ⟨k + 1, by omega, (by congr 1 <;> omega), hid HQ.out.1, HALL, HQ.out.2⟩
          case measure => simp [intOf]; omega
        | false =>
          have HG := hid (getR_bad hok)
          have HNO := hid hok
          clear hok
          go_wp2_with (go_at_call 80; refine Calls.mono (get_all b (o + 4 * k) (ca - 4 * k) (byK l k 0) (byK l k 1) (byK l k 2) (byK l k 3) _ HW.out (by omega) (by omega) (HBK.out 0) (HBK.out 1) (HBK.out 2) (HBK.out 3)) ?_; rw [HG.out]; rintro e w1 ⟨rfl, hy⟩; obtain ⟨d, rfl⟩ := hy.grown; clear hy)
          refine bodyPost_ret (v := .tuple #[.slice none 0 0, .int .i64 (4 * (k : Int)), .int .i64 151]) (by simp [results, Try.results68, go_sem]) rfl ?_
          exact ⟨(by repeat (first | (with_reducible exact Ext.refl _) | (with_reducible refine Ext.undrew ?_) | (with_reducible refine Ext.grow ?_ _) | (with_reducible refine Ext.drew ?_) | (with_reducible refine Ext.drewN ?_ _) | (with_reducible refine Ext.alloc ?_ _) | (with_reducible assumption) | ((with_reducible refine Ext.setCell ?_ ?_ _); rotate_left; (first | exact Nat.le_refl _ | ((try dsimp only); (try simp only [World.size_alloc, grow_size, World.size_setCell]); omega))))), k, hall.out, hk, .inr (.inl ⟨hf, HNO.out, rfl⟩)⟩
      · have hf' : ¬ 4 * (k : Int) + 4 ≤ (l.length : Int) := by omega
        go_wp2_with (go_at_call 80; refine Calls.mono (get_len _ _ _ _ (by omega)) ?_; rintro e w1 ⟨rfl, hy⟩; obtain ⟨d, rfl⟩ := hy.grown; clear hy)
        refine bodyPost_ret (v := .tuple #[.slice none 0 0, .int .i64 (4 * (k : Int)), .int .i64 1]) (by simp [results, Try.results68, go_sem]) rfl ?_
        exact ⟨(by repeat (first | (with_reducible exact Ext.refl _) | (with_reducible refine Ext.undrew ?_) | (with_reducible refine Ext.grow ?_ _) | (with_reducible refine Ext.drew ?_) | (with_reducible refine Ext.drewN ?_ _) | (with_reducible refine Ext.alloc ?_ _) | (with_reducible assumption) | ((with_reducible refine Ext.setCell ?_ ?_ _); rotate_left; (first | exact Nat.le_refl _ | ((try dsimp only); (try simp only [World.size_alloc, grow_size, World.size_setCell]); omega))))), k, hall.out, hk, .inr (.inr ⟨hlt, by omega, rfl⟩)⟩
    · have hke : 4 * k = l.length := by omega
      have hge : ¬ 4 * (k : Int) < (l.length : Int) := by omega
      obtain ⟨A', ca', rfl, hrd, _⟩ := owns_ins hown.out
      have HRD := hid hrd
      clear hrd hown
      have HKE := hid hke
      clear hke
      go_wp2
      refine bodyPost_ret (v := .tuple #[.slice A' k ca', .int .i64 (l.length : Int), .int .i64 0]) (by simp [results, Try.results68, go_sem]) rfl ?_
      exact ⟨(by repeat (first | (with_reducible exact Ext.refl _) | (with_reducible refine Ext.undrew ?_) | (with_reducible refine Ext.grow ?_ _) | (with_reducible refine Ext.drew ?_) | (with_reducible refine Ext.drewN ?_ _) | (with_reducible refine Ext.alloc ?_ _) | (with_reducible assumption) | ((with_reducible refine Ext.setCell ?_ ?_ _); rotate_left; (first | exact Nat.le_refl _ | ((try dsimp only); (try simp only [World.size_alloc, grow_size, World.size_setCell]); omega))))), k, hall.out, hk, .inl ⟨HKE.out, A', ca', rfl, HRD.out.ext (by repeat (first | (with_reducible exact Ext.refl _) | (with_reducible refine Ext.undrew ?_) | (with_reducible refine Ext.grow ?_ _) | (with_reducible refine Ext.drew ?_) | (with_reducible refine Ext.drewN ?_ _) | (with_reducible refine Ext.alloc ?_ _) | (with_reducible assumption) | ((with_reducible refine Ext.setCell ?_ ?_ _); rotate_left; (first | exact Nat.le_refl _ | ((try dsimp only); (try simp only [World.size_alloc, grow_size, World.size_setCell]); omega)))))⟩⟩

set_option maxRecDepth 100000 in
set_option maxHeartbeats 4000000 in
theorem rall (A : Option Addr) (ca : Nat) (l : List Int) (w : World) (hA : RdB w A l) (hbl : byteL l) (hlc : l.length ≤ ca) (hcm : ca ≤ maxLen) (hn : l.length ≤ 10000) :
    Calls Try.prog 45 #[.slice A l.length ca] w fun e w' => AllPost l w e w' := by
  obtain ⟨i0, hi0, hz0, hz1, hz2⟩ := info_parts info_ins
  have HI0 := hid hi0
  have HA := hid hA
  have HB := hid hbl
  clear hA hbl
  have hml : ca ≤ 9223372036854775807 := by unfold maxLen at hcm; omega
  go_enter Try.func45, Try.ntmps45
  go_wp2
  go_loopw [5, 6] (fun v at_ wr => ∃ k : Nat, 4 * k ≤ l.length ∧ at_ = .int .i64 (4 * (k : Int)) ∧ Hid (wr.ownsRow w.heap.size 85 4 v k (rowI (insK l) k)) ∧ Hid (∀ j, j < k → okK l j = true) ∧ Ext w wr) (fun _ at_ _ => l.length - (intOf at_).toNat)
  case atStart => exact ⟨0, Nat.zero_le _, rfl, hid (owns_nil _ _ _ _), hid fun j hj => absurd hj (by omega), (by repeat (first | (with_reducible exact Ext.refl _) | (with_reducible refine Ext.undrew ?_) | (with_reducible refine Ext.grow ?_ _) | (with_reducible refine Ext.drew ?_) | (with_reducible refine Ext.drewN ?_ _) | (with_reducible refine Ext.alloc ?_ _) | (with_reducible assumption) | ((with_reducible refine Ext.setCell ?_ ?_ _); rotate_left; (first | exact Nat.le_refl _ | ((try dsimp only); (try simp only [World.size_alloc, grow_size, World.size_setCell]); omega)))))⟩
  case round =>
    obtain ⟨k, hk, rfl, hown, hall, hx⟩ := hrel
    have hk0 : (0 : Int) ≤ 4 * (k : Int) := by omega
    by_cases hlt : 4 * k < l.length
    · obtain ⟨b, o, rfl, hb, _⟩ := HA.out (by omega)
      have hlt' : 4 * (k : Int) < (l.length : Int) := by omega
      by_cases hf : 4 * k + 4 ≤ l.length
      · have hf' : 4 * (k : Int) + 4 ≤ (l.length : Int) := by omega
        have HW := hid (RdB.word ((HA.out).ext hx) hf)
        have HBK := hid (byK_bd HB.out k)
        cases hok : okK l k with
        | true =>
          have HG := hid (getR_ok hok)
          have HALL := hid (upto_snoc hall.out hok)
          clear hok hall
          go_wp2_with (first | (go_at_call 75; refine Calls.mono (rget_all b (o + 4 * k) (ca - 4 * k) (byK l k 0) (byK l k 1) (byK l k 2) (byK l k 3) _ HW.out (by omega) (by omega) (HBK.out 0) (HBK.out 1) (HBK.out 2) (HBK.out 3)) ?_; rw [HG.out]; rintro e w1 ⟨rfl, hy⟩; obtain ⟨d, rfl⟩ := hy.grown; clear hy) | (at_builtin; refine wpList_append_own _ rfl _ _ 81 rfl w.heap.size 85 i0 _ 4 32 Try.underlying81 hi0 hz0 hz1 hz2 rfl (by decide) _ _ _ rfl (World.ownsRow.alloc (World.ownsRow.alloc (ownsExt hown.out (Ext.grow (Ext.refl _) d)) _) _) _ 1 1 (insK l k).cells rfl rfl ?c1 (I4.one _) ?c3 ?c4 ?c5 ?_))
          case c1 =>
            intro j u hj
            rw [Addr.add_lit]
            have hj4 : j = 0 ∨ j = 1 ∨ j = 2 ∨ j = 3 := by
              have h := (List.getElem?_eq_some_iff.1 hj).1
              rw [I4.len] at h
              omega
            rcases hj4 with rfl | rfl | rfl | rfl <;> (simp [I4.cells] at hj; subst hj; simp [go_sem])
          case c3 => unfold maxLen; omega
          case c4 => omega
          case c5 => have := hx.size; simp [go_sem]; omega
          intro v' w1 hown1 hgrow _
          rw [← rowI_succ] at hown1
          have hx1 : Ext w w1 := Ext.owned (by repeat (first | (with_reducible exact Ext.refl _) | (with_reducible refine Ext.undrew ?_) | (with_reducible refine Ext.grow ?_ _) | (with_reducible refine Ext.drew ?_) | (with_reducible refine Ext.drewN ?_ _) | (with_reducible refine Ext.alloc ?_ _) | (with_reducible assumption) | ((with_reducible refine Ext.setCell ?_ ?_ _); rotate_left; (first | exact Nat.le_refl _ | ((try dsimp only); (try simp only [World.size_alloc, grow_size, World.size_setCell]); omega))))) (World.ownsRow.alloc (World.ownsRow.alloc (ownsExt hown.out (Ext.grow (Ext.refl _) d)) _) _) hgrow
          have HQ := hid (And.intro hown1 hx1)
          clear hown1 hgrow hx1
          go_wp2
          go_roundw
          case rel => exact ⟨k + 1, by omega, (by congr 1 <;> omega), hid HQ.out.1, HALL, HQ.out.2⟩
          case measure => simp [intOf]; omega
        | false =>
          have HG := hid (getR_bad hok)
          have HNO := hid hok
          clear hok
          go_wp2_with (go_at_call 75; refine Calls.mono (rget_all b (o + 4 * k) (ca - 4 * k) (byK l k 0) (byK l k 1) (byK l k 2) (byK l k 3) _ HW.out (by omega) (by omega) (HBK.out 0) (HBK.out 1) (HBK.out 2) (HBK.out 3)) ?_; rw [HG.out]; rintro e w1 ⟨rfl, hy⟩; obtain ⟨d, rfl⟩ := hy.grown; clear hy)
          refine bodyPost_ret (v := .tuple #[.slice none 0 0, .int .i64 (4 * (k : Int)), .int .i64 151]) (by simp [results, Try.results45, go_sem]) rfl ?_
          exact ⟨(by repeat (first | (with_reducible exact Ext.refl _) | (with_reducible refine Ext.undrew ?_) | (with_reducible refine Ext.grow ?_ _) | (with_reducible refine Ext.drew ?_) | (with_reducible refine Ext.drewN ?_ _) | (with_reducible refine Ext.alloc ?_ _) | (with_reducible assumption) | ((with_reducible refine Ext.setCell ?_ ?_ _); rotate_left; (first | exact Nat.le_refl _ | ((try dsimp only); (try simp only [World.size_alloc, grow_size, World.size_setCell]); omega))))), k, hall.out, hk, .inr (.inl ⟨hf, HNO.out, rfl⟩)⟩
      · have hf' : ¬ 4 * (k : Int) + 4 ≤ (l.length : Int) := by omega
        go_wp2_with (go_at_call 75; refine Calls.mono (rget_len _ _ _ _ (by omega)) ?_; rintro e w1 ⟨rfl, hy⟩; obtain ⟨d, rfl⟩ := hy.grown; clear hy)
        refine bodyPost_ret (v := .tuple #[.slice none 0 0, .int .i64 (4 * (k : Int)), .int .i64 1]) (by simp [results, Try.results45, go_sem]) rfl ?_
        exact ⟨(by repeat (first | (with_reducible exact Ext.refl _) | (with_reducible refine Ext.undrew ?_) | (with_reducible refine Ext.grow ?_ _) | (with_reducible refine Ext.drew ?_) | (with_reducible refine Ext.drewN ?_ _) | (with_reducible refine Ext.alloc ?_ _) | (with_reducible assumption) | ((with_reducible refine Ext.setCell ?_ ?_ _); rotate_left; (first | exact Nat.le_refl _ | ((try dsimp only); (try simp only [World.size_alloc, grow_size, World.size_setCell]); omega))))), k, hall.out, hk, .inr (.inr ⟨hlt, by omega, rfl⟩)⟩
    · have hke : 4 * k = l.length := by omega
      have hge : ¬ 4 * (k : Int) < (l.length : Int) := by omega
      obtain ⟨A', ca', rfl, hrd, _⟩ := owns_ins hown.out
      have HRD := hid hrd
      clear hrd hown
      have HKE := hid hke
      clear hke
      go_wp2
      refine bodyPost_ret (v := .tuple #[.slice A' k ca', .int .i64 (l.length : Int), .int .i64 0]) (by simp [results, Try.results45, go_sem]) rfl ?_
      exact ⟨(by repeat (first | (with_reducible exact Ext.refl _) | (with_reducible refine Ext.undrew ?_) | (with_reducible refine Ext.grow ?_ _) | (with_reducible refine Ext.drew ?_) | (with_reducible refine Ext.drewN ?_ _) | (with_reducible refine Ext.alloc ?_ _) | (with_reducible assumption) | ((with_reducible refine Ext.setCell ?_ ?_ _); rotate_left; (first | exact Nat.le_refl _ | ((try dsimp only); (try simp only [World.size_alloc, grow_size, World.size_setCell]); omega))))), k, hall.out, hk, .inl ⟨HKE.out, A', ca', rfl, HRD.out.ext (by repeat (first | (with_reducible exact Ext.refl _) | (with_reducible refine Ext.undrew ?_) | (with_reducible refine Ext.grow ?_ _) | (with_reducible refine Ext.drew ?_) | (with_reducible refine Ext.drewN ?_ _) | (with_reducible refine Ext.alloc ?_ _) | (with_reducible assumption) | ((with_reducible refine Ext.setCell ?_ ?_ _); rotate_left; (first | exact Nat.le_refl _ | ((try dsimp only); (try simp only [World.size_alloc, grow_size, World.size_setCell]); omega)))))⟩⟩

end Go.Proofs.Ytgldlkoohfclpaa
