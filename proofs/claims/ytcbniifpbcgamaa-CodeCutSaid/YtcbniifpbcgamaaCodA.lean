/- Layer 15: kinds of instructions. -/
import Derived.Test.YtcbniifpbcgamaaProg
import Derived.Test.YtcbniifpbcgamaaG
namespace Go.Proofs.Ytcbniifpbcgamaa
set_option linter.unusedSimpArgs false
set_option linter.unusedVariables false
open Go.RowKit


def kd (op : Int) : Nat :=
  if op ∈ ([0, 24] : List Int) then 1 else if op ∈ ([1, 10] : List Int) then 2 else if op ∈ ([2, 22, 23, 25, 26, 27, 28] : List Int) then 3 else if op ∈ ([3, 4, 5, 6, 7, 8, 17, 18, 20, 21] : List Int) then 4 else if op ∈ ([9] : List Int) then 5 else if op ∈ ([11, 12, 13, 14, 15, 16, 19] : List Int) then 6 else if op ∈ ([29] : List Int) then 7 else 0
def fR (n : Int) : Bool := decide (0 ≤ n) && decide (n ≤ 7)
def fI (n : Int) : Bool := decide (0 ≤ n) && decide (n ≤ 255)
def fW (n : Int) : Bool := decide (-32768 ≤ n) && decide (n ≤ 32767)
def fZ (n : Int) : Bool := decide (n = 0)
def kA : Nat → Int → Bool
  | 1 => fZ | 2 => fR | 3 => fR | 4 => fR | 5 => fZ | 6 => fR | 7 => fI | _ => fun _ => false
def kB : Nat → Int → Bool
  | 1 => fZ | 2 => fW | 3 => fR | 4 => fR | 5 => fW | 6 => fR | 7 => fZ | _ => fun _ => false
def kC : Nat → Int → Bool
  | 1 => fZ | 2 => fZ | 3 => fZ | 4 => fR | 5 => fZ | 6 => fI | 7 => fZ | _ => fun _ => false
def rightI (op a b c : Int) : Bool := kA (kd op) a && (kB (kd op) b && kC (kd op) c)
theorem kd_cases (op : Int) : kd op = 0 ∨ kd op = 1 ∨ kd op = 2 ∨ kd op = 3 ∨ kd op = 4 ∨ kd op = 5 ∨ kd op = 6 ∨ kd op = 7 := by
  unfold kd
  repeat' split
  all_goals simp
def kstr : Nat → ByteArray
  | 1 => ⟨#[45, 45, 45]⟩
  | 2 => ⟨#[114, 119, 118]⟩
  | 3 => ⟨#[114, 114, 45]⟩
  | 4 => ⟨#[114, 114, 114]⟩
  | 5 => ⟨#[45, 119, 118]⟩
  | 6 => ⟨#[114, 114, 105]⟩
  | 7 => ⟨#[105, 45, 45]⟩
  | _ => ⟨#[]⟩
def inL (op : Int) (zs : List Int) : Bool := decide (op ∈ zs)
theorem upto_ne {zs : List Int} {op : Int} {k : Nat} (hlt : k < zs.length) (h : ∀ j (hj : j < zs.length), j < k → ¬ op = zs[j]) (he : ¬ op = zs[k]) : ∀ j (hj : j < zs.length), j < k + 1 → ¬ op = zs[j] := by
  intro j hj hjk
  rcases Nat.lt_or_ge j k with h' | h'
  · exact h j hj h'
  · obtain rfl : j = k := by omega
    exact he
set_option maxHeartbeats 2000000 in
theorem among_ (op : Int) (A : Option Addr) (ca : Nat) (zs : List Int) (w : World) (hA : SlAt w A (zs.map (Value.int .i64))) (hn : zs.length ≤ 1000) :
    Calls Try.prog 22 #[.int .i64 op, .slice A zs.length ca] w fun e w' => e = .returned (.bool (inL op zs)) ∧ Ext w w' := by
  have HA := hid hA
  clear hA
  go_enter Try.func22, Try.ntmps22
  go_wp2
  go_loopw [9] (fun i wr => ∃ k : Nat, k ≤ zs.length ∧ i = .int .i64 k ∧ Hid (∀ j (h : j < zs.length), j < k → ¬ op = zs[j]) ∧ Ext w wr) (fun i _ => zs.length - (intOf i).toNat)
  case atStart => exact ⟨0, Nat.zero_le _, rfl, hid fun j h hj => absurd hj (by omega), (by repeat (first | (with_reducible exact Ext.refl _) | (with_reducible refine Ext.undrew ?_) | (with_reducible refine Ext.grow ?_ _) | (with_reducible refine Ext.drew ?_) | (with_reducible refine Ext.drewN ?_ _) | (with_reducible refine Ext.alloc ?_ _) | (with_reducible assumption) | ((with_reducible refine Ext.setCell ?_ ?_ _); rotate_left; (first | exact Nat.le_refl _ | ((try dsimp only); (try simp only [World.size_alloc, grow_size, World.size_setCell]); omega)))))⟩
  case round =>
    obtain ⟨k, hk, rfl, hall, hx⟩ := hrel
    by_cases hlt : k < zs.length
    · obtain ⟨b, off, rfl, hb, hc⟩ := HA.out (by simpa using (by omega : 0 < zs.length))
      have hck : wr.cell? ⟨b, off + k, none⟩ = some (.int .i64 zs[k]) := by
        rw [hx.cells b _ hb, hc k (by simpa using hlt)]
        simp
      clear hc
      have hk0 : (0 : Int) ≤ (k : Int) := by omega
      have hk1 : (k : Int) < (zs.length : Int) := by omega
      by_cases he : op = zs[k]
      · have hm : inL op zs = true := by unfold inL; rw [he]; simp
        have HM := hid hm
        have he' : (op == zs[k]) = true := by simpa using he
        clear hm he
        go_wp2
        all_goals go_ret
        all_goals exact ⟨by rw [HM.out]; rfl, (by repeat (first | (with_reducible exact Ext.refl _) | (with_reducible refine Ext.undrew ?_) | (with_reducible refine Ext.grow ?_ _) | (with_reducible refine Ext.drew ?_) | (with_reducible refine Ext.drewN ?_ _) | (with_reducible refine Ext.alloc ?_ _) | (with_reducible assumption) | ((with_reducible refine Ext.setCell ?_ ?_ _); rotate_left; (first | exact Nat.le_refl _ | ((try dsimp only); (try simp only [World.size_alloc, grow_size, World.size_setCell]); omega)))))⟩
      · have he' : (op == zs[k]) = false := by simpa using he
        go_wp2
        go_roundw
        case rel => exact ⟨k + 1, by omega, by go_num, hid (upto_ne hlt hall.out he), (by repeat (first | (with_reducible exact Ext.refl _) | (with_reducible refine Ext.undrew ?_) | (with_reducible refine Ext.grow ?_ _) | (with_reducible refine Ext.drew ?_) | (with_reducible refine Ext.drewN ?_ _) | (with_reducible refine Ext.alloc ?_ _) | (with_reducible assumption) | ((with_reducible refine Ext.setCell ?_ ?_ _); rotate_left; (first | exact Nat.le_refl _ | ((try dsimp only); (try simp only [World.size_alloc, grow_size, World.size_setCell]); omega)))))⟩
        case measure => simp [intOf]; omega
    · have hm : inL op zs = false := by
        unfold inL
        simp only [decide_eq_false_iff_not]
        intro h
        obtain ⟨j, hj, e⟩ := List.getElem_of_mem h
        exact hall.out j hj (by omega) e.symm
      have HM := hid hm
      clear hm
      go_wp2
      go_ret
      exact ⟨by rw [HM.out]; rfl, (by repeat (first | (with_reducible exact Ext.refl _) | (with_reducible refine Ext.undrew ?_) | (with_reducible refine Ext.grow ?_ _) | (with_reducible refine Ext.drew ?_) | (with_reducible refine Ext.drewN ?_ _) | (with_reducible refine Ext.alloc ?_ _) | (with_reducible assumption) | ((with_reducible refine Ext.setCell ?_ ?_ _); rotate_left; (first | exact Nat.le_refl _ | ((try dsimp only); (try simp only [World.size_alloc, grow_size, World.size_setCell]); omega)))))⟩

theorem sl0 (w : World) (q : Nat) (hq : q = w.heap.size) : SlAt (w.alloc (.cells #[.int .i64 0, .int .i64 24] 3)) (some ⟨q, 0, none⟩) ([0, 24].map (Value.int .i64)) := by
  subst hq
  exact slAtNew _ _ _
theorem sl1 (w : World) (q : Nat) (hq : q = w.heap.size) : SlAt (w.alloc (.cells #[.int .i64 1, .int .i64 10] 3)) (some ⟨q, 0, none⟩) ([1, 10].map (Value.int .i64)) := by
  subst hq
  exact slAtNew _ _ _
theorem sl2 (w : World) (q : Nat) (hq : q = w.heap.size) : SlAt (w.alloc (.cells #[.int .i64 2, .int .i64 22, .int .i64 23, .int .i64 25, .int .i64 26, .int .i64 27, .int .i64 28] 3)) (some ⟨q, 0, none⟩) ([2, 22, 23, 25, 26, 27, 28].map (Value.int .i64)) := by
  subst hq
  exact slAtNew _ _ _
theorem sl3 (w : World) (q : Nat) (hq : q = w.heap.size) : SlAt (w.alloc (.cells #[.int .i64 3, .int .i64 4, .int .i64 5, .int .i64 6, .int .i64 7, .int .i64 8, .int .i64 17, .int .i64 18, .int .i64 20, .int .i64 21] 3)) (some ⟨q, 0, none⟩) ([3, 4, 5, 6, 7, 8, 17, 18, 20, 21].map (Value.int .i64)) := by
  subst hq
  exact slAtNew _ _ _
theorem sl4 (w : World) (q : Nat) (hq : q = w.heap.size) : SlAt (w.alloc (.cells #[.int .i64 9] 3)) (some ⟨q, 0, none⟩) ([9].map (Value.int .i64)) := by
  subst hq
  exact slAtNew _ _ _
theorem sl5 (w : World) (q : Nat) (hq : q = w.heap.size) : SlAt (w.alloc (.cells #[.int .i64 11, .int .i64 12, .int .i64 13, .int .i64 14, .int .i64 15, .int .i64 16, .int .i64 19] 3)) (some ⟨q, 0, none⟩) ([11, 12, 13, 14, 15, 16, 19].map (Value.int .i64)) := by
  subst hq
  exact slAtNew _ _ _
theorem sl6 (w : World) (q : Nat) (hq : q = w.heap.size) : SlAt (w.alloc (.cells #[.int .i64 29] 3)) (some ⟨q, 0, none⟩) ([29].map (Value.int .i64)) := by
  subst hq
  exact slAtNew _ _ _
set_option maxRecDepth 100000 in
set_option maxHeartbeats 2000000 in
theorem kinds0 (op : Int) (w : World) (hj : kd op = 0) :
    Calls Try.prog 15 #[.int .i64 op] w fun e w' => e = .returned (.string ⟨#[]⟩) ∧ Ext w w' := by
  have m0 : inL op [0, 24] = false := by
    revert hj
    unfold kd inL
    by_cases h0 : op ∈ [0, 24] <;> simp [h0]
    all_goals (repeat' split)
    all_goals simp_all
  have m1 : inL op [1, 10] = false := by
    revert hj
    unfold kd inL
    by_cases h1 : op ∈ [1, 10] <;> simp [h1]
    all_goals (repeat' split)
    all_goals simp_all
  have m2 : inL op [2, 22, 23, 25, 26, 27, 28] = false := by
    revert hj
    unfold kd inL
    by_cases h2 : op ∈ [2, 22, 23, 25, 26, 27, 28] <;> simp [h2]
    all_goals (repeat' split)
    all_goals simp_all
  have m3 : inL op [3, 4, 5, 6, 7, 8, 17, 18, 20, 21] = false := by
    revert hj
    unfold kd inL
    by_cases h3 : op ∈ [3, 4, 5, 6, 7, 8, 17, 18, 20, 21] <;> simp [h3]
    all_goals (repeat' split)
    all_goals simp_all
  have m4 : inL op [9] = false := by
    revert hj
    unfold kd inL
    by_cases h4 : op ∈ [9] <;> simp [h4]
    all_goals (repeat' split)
    all_goals simp_all
  have m5 : inL op [11, 12, 13, 14, 15, 16, 19] = false := by
    revert hj
    unfold kd inL
    by_cases h5 : op ∈ [11, 12, 13, 14, 15, 16, 19] <;> simp [h5]
    all_goals (repeat' split)
    all_goals simp_all
  have m6 : inL op [29] = false := by
    revert hj
    unfold kd inL
    by_cases h6 : op ∈ [29] <;> simp [h6]
    all_goals (repeat' split)
    all_goals simp_all
  clear hj
  go_enter Try.func15, Try.ntmps15
  go_wp2_with fail
  refine Calls.mono (among_ op _ _ [0, 24] _ (sl0 _ _ (by simp [grow_size])) (by simp)) ?_
  rintro e w1 ⟨rfl, hy⟩; obtain ⟨d0, rfl⟩ := hy.grown; clear hy
  go_wp2_with fail
  refine Calls.mono (among_ op _ _ [1, 10] _ (sl1 _ _ (by simp [grow_size])) (by simp)) ?_
  rintro e w1 ⟨rfl, hy⟩; obtain ⟨d1, rfl⟩ := hy.grown; clear hy
  go_wp2_with fail
  refine Calls.mono (among_ op _ _ [2, 22, 23, 25, 26, 27, 28] _ (sl2 _ _ (by simp [grow_size])) (by simp)) ?_
  rintro e w1 ⟨rfl, hy⟩; obtain ⟨d2, rfl⟩ := hy.grown; clear hy
  go_wp2_with fail
  refine Calls.mono (among_ op _ _ [3, 4, 5, 6, 7, 8, 17, 18, 20, 21] _ (sl3 _ _ (by simp [grow_size])) (by simp)) ?_
  rintro e w1 ⟨rfl, hy⟩; obtain ⟨d3, rfl⟩ := hy.grown; clear hy
  go_wp2_with fail
  refine Calls.mono (among_ op _ _ [9] _ (sl4 _ _ (by simp [grow_size])) (by simp)) ?_
  rintro e w1 ⟨rfl, hy⟩; obtain ⟨d4, rfl⟩ := hy.grown; clear hy
  go_wp2_with fail
  refine Calls.mono (among_ op _ _ [11, 12, 13, 14, 15, 16, 19] _ (sl5 _ _ (by simp [grow_size])) (by simp)) ?_
  rintro e w1 ⟨rfl, hy⟩; obtain ⟨d5, rfl⟩ := hy.grown; clear hy
  go_wp2_with fail
  refine Calls.mono (among_ op _ _ [29] _ (sl6 _ _ (by simp [grow_size])) (by simp)) ?_
  rintro e w1 ⟨rfl, hy⟩; obtain ⟨d6, rfl⟩ := hy.grown; clear hy
  go_wp2
  go_ret
  exact ⟨rfl, (by repeat (first | (with_reducible exact Ext.refl _) | (with_reducible refine Ext.undrew ?_) | (with_reducible refine Ext.grow ?_ _) | (with_reducible refine Ext.drew ?_) | (with_reducible refine Ext.drewN ?_ _) | (with_reducible refine Ext.alloc ?_ _) | (with_reducible assumption) | ((with_reducible refine Ext.setCell ?_ ?_ _); rotate_left; (first | exact Nat.le_refl _ | ((try dsimp only); (try simp only [World.size_alloc, grow_size, World.size_setCell]); omega)))))⟩

set_option maxRecDepth 100000 in
set_option maxHeartbeats 2000000 in
theorem kinds1 (op : Int) (w : World) (hj : kd op = 1) :
    Calls Try.prog 15 #[.int .i64 op] w fun e w' => e = .returned (.string ⟨#[45, 45, 45]⟩) ∧ Ext w w' := by
  have m0 : inL op [0, 24] = true := by
    revert hj
    unfold kd inL
    by_cases h0 : op ∈ [0, 24] <;> simp [h0]
    all_goals (repeat' split)
    all_goals simp_all
  clear hj
  go_enter Try.func15, Try.ntmps15
  go_wp2_with fail
  refine Calls.mono (among_ op _ _ [0, 24] _ (sl0 _ _ (by simp [grow_size])) (by simp)) ?_
  rintro e w1 ⟨rfl, hy⟩; obtain ⟨d0, rfl⟩ := hy.grown; clear hy
  go_wp2
  go_ret
  exact ⟨rfl, (by repeat (first | (with_reducible exact Ext.refl _) | (with_reducible refine Ext.undrew ?_) | (with_reducible refine Ext.grow ?_ _) | (with_reducible refine Ext.drew ?_) | (with_reducible refine Ext.drewN ?_ _) | (with_reducible refine Ext.alloc ?_ _) | (with_reducible assumption) | ((with_reducible refine Ext.setCell ?_ ?_ _); rotate_left; (first | exact Nat.le_refl _ | ((try dsimp only); (try simp only [World.size_alloc, grow_size, World.size_setCell]); omega)))))⟩

set_option maxRecDepth 100000 in
set_option maxHeartbeats 2000000 in
theorem kinds2 (op : Int) (w : World) (hj : kd op = 2) :
    Calls Try.prog 15 #[.int .i64 op] w fun e w' => e = .returned (.string ⟨#[114, 119, 118]⟩) ∧ Ext w w' := by
  have m0 : inL op [0, 24] = false := by
    revert hj
    unfold kd inL
    by_cases h0 : op ∈ [0, 24] <;> simp [h0]
    all_goals (repeat' split)
    all_goals simp_all
  have m1 : inL op [1, 10] = true := by
    revert hj
    unfold kd inL
    by_cases h1 : op ∈ [1, 10] <;> simp [h1]
    all_goals (repeat' split)
    all_goals simp_all
  clear hj
  go_enter Try.func15, Try.ntmps15
  go_wp2_with fail
  refine Calls.mono (among_ op _ _ [0, 24] _ (sl0 _ _ (by simp [grow_size])) (by simp)) ?_
  rintro e w1 ⟨rfl, hy⟩; obtain ⟨d0, rfl⟩ := hy.grown; clear hy
  go_wp2_with fail
  refine Calls.mono (among_ op _ _ [1, 10] _ (sl1 _ _ (by simp [grow_size])) (by simp)) ?_
  rintro e w1 ⟨rfl, hy⟩; obtain ⟨d1, rfl⟩ := hy.grown; clear hy
  go_wp2
  go_ret
  exact ⟨rfl, (by repeat (first | (with_reducible exact Ext.refl _) | (with_reducible refine Ext.undrew ?_) | (with_reducible refine Ext.grow ?_ _) | (with_reducible refine Ext.drew ?_) | (with_reducible refine Ext.drewN ?_ _) | (with_reducible refine Ext.alloc ?_ _) | (with_reducible assumption) | ((with_reducible refine Ext.setCell ?_ ?_ _); rotate_left; (first | exact Nat.le_refl _ | ((try dsimp only); (try simp only [World.size_alloc, grow_size, World.size_setCell]); omega)))))⟩

set_option maxRecDepth 100000 in
set_option maxHeartbeats 2000000 in
theorem kinds3 (op : Int) (w : World) (hj : kd op = 3) :
    Calls Try.prog 15 #[.int .i64 op] w fun e w' => e = .returned (.string ⟨#[114, 114, 45]⟩) ∧ Ext w w' := by
  have m0 : inL op [0, 24] = false := by
    revert hj
    unfold kd inL
    by_cases h0 : op ∈ [0, 24] <;> simp [h0]
    all_goals (repeat' split)
    all_goals simp_all
  have m1 : inL op [1, 10] = false := by
    revert hj
    unfold kd inL
    by_cases h1 : op ∈ [1, 10] <;> simp [h1]
    all_goals (repeat' split)
    all_goals simp_all
  have m2 : inL op [2, 22, 23, 25, 26, 27, 28] = true := by
    revert hj
    unfold kd inL
    by_cases h2 : op ∈ [2, 22, 23, 25, 26, 27, 28] <;> simp [h2]
    all_goals (repeat' split)
    all_goals simp_all
  clear hj
  go_enter Try.func15, Try.ntmps15
  go_wp2_with fail
  refine Calls.mono (among_ op _ _ [0, 24] _ (sl0 _ _ (by simp [grow_size])) (by simp)) ?_
  rintro e w1 ⟨rfl, hy⟩; obtain ⟨d0, rfl⟩ := hy.grown; clear hy
  go_wp2_with fail
  refine Calls.mono (among_ op _ _ [1, 10] _ (sl1 _ _ (by simp [grow_size])) (by simp)) ?_
  rintro e w1 ⟨rfl, hy⟩; obtain ⟨d1, rfl⟩ := hy.grown; clear hy
  go_wp2_with fail
  refine Calls.mono (among_ op _ _ [2, 22, 23, 25, 26, 27, 28] _ (sl2 _ _ (by simp [grow_size])) (by simp)) ?_
  rintro e w1 ⟨rfl, hy⟩; obtain ⟨d2, rfl⟩ := hy.grown; clear hy
  go_wp2
  go_ret
  exact ⟨rfl, (by repeat (first | (with_reducible exact Ext.refl _) | (with_reducible refine Ext.undrew ?_) | (with_reducible refine Ext.grow ?_ _) | (with_reducible refine Ext.drew ?_) | (with_reducible refine Ext.drewN ?_ _) | (with_reducible refine Ext.alloc ?_ _) | (with_reducible assumption) | ((with_reducible refine Ext.setCell ?_ ?_ _); rotate_left; (first | exact Nat.le_refl _ | ((try dsimp only); (try simp only [World.size_alloc, grow_size, World.size_setCell]); omega)))))⟩

set_option maxRecDepth 100000 in
set_option maxHeartbeats 2000000 in
theorem kinds4 (op : Int) (w : World) (hj : kd op = 4) :
    Calls Try.prog 15 #[.int .i64 op] w fun e w' => e = .returned (.string ⟨#[114, 114, 114]⟩) ∧ Ext w w' := by
  have m0 : inL op [0, 24] = false := by
    revert hj
    unfold kd inL
    by_cases h0 : op ∈ [0, 24] <;> simp [h0]
    all_goals (repeat' split)
    all_goals simp_all
  have m1 : inL op [1, 10] = false := by
    revert hj
    unfold kd inL
    by_cases h1 : op ∈ [1, 10] <;> simp [h1]
    all_goals (repeat' split)
    all_goals simp_all
  have m2 : inL op [2, 22, 23, 25, 26, 27, 28] = false := by
    revert hj
    unfold kd inL
    by_cases h2 : op ∈ [2, 22, 23, 25, 26, 27, 28] <;> simp [h2]
    all_goals (repeat' split)
    all_goals simp_all
  have m3 : inL op [3, 4, 5, 6, 7, 8, 17, 18, 20, 21] = true := by
    revert hj
    unfold kd inL
    by_cases h3 : op ∈ [3, 4, 5, 6, 7, 8, 17, 18, 20, 21] <;> simp [h3]
    all_goals (repeat' split)
    all_goals simp_all
  clear hj
  go_enter Try.func15, Try.ntmps15
  go_wp2_with fail
  refine Calls.mono (among_ op _ _ [0, 24] _ (sl0 _ _ (by simp [grow_size])) (by simp)) ?_
  rintro e w1 ⟨rfl, hy⟩; obtain ⟨d0, rfl⟩ := hy.grown; clear hy
  go_wp2_with fail
  refine Calls.mono (among_ op _ _ [1, 10] _ (sl1 _ _ (by simp [grow_size])) (by simp)) ?_
  rintro e w1 ⟨rfl, hy⟩; obtain ⟨d1, rfl⟩ := hy.grown; clear hy
  go_wp2_with fail
  refine Calls.mono (among_ op _ _ [2, 22, 23, 25, 26, 27, 28] _ (sl2 _ _ (by simp [grow_size])) (by simp)) ?_
  rintro e w1 ⟨rfl, hy⟩; obtain ⟨d2, rfl⟩ := hy.grown; clear hy
  go_wp2_with fail
  refine Calls.mono (among_ op _ _ [3, 4, 5, 6, 7, 8, 17, 18, 20, 21] _ (sl3 _ _ (by simp [grow_size])) (by simp)) ?_
  rintro e w1 ⟨rfl, hy⟩; obtain ⟨d3, rfl⟩ := hy.grown; clear hy
  go_wp2
  go_ret
  exact ⟨rfl, (by repeat (first | (with_reducible exact Ext.refl _) | (with_reducible refine Ext.undrew ?_) | (with_reducible refine Ext.grow ?_ _) | (with_reducible refine Ext.drew ?_) | (with_reducible refine Ext.drewN ?_ _) | (with_reducible refine Ext.alloc ?_ _) | (with_reducible assumption) | ((with_reducible refine Ext.setCell ?_ ?_ _); rotate_left; (first | exact Nat.le_refl _ | ((try dsimp only); (try simp only [World.size_alloc, grow_size, World.size_setCell]); omega)))))⟩

set_option maxRecDepth 100000 in
set_option maxHeartbeats 2000000 in
theorem kinds5 (op : Int) (w : World) (hj : kd op = 5) :
    Calls Try.prog 15 #[.int .i64 op] w fun e w' => e = .returned (.string ⟨#[45, 119, 118]⟩) ∧ Ext w w' := by
  have m0 : inL op [0, 24] = false := by
    revert hj
    unfold kd inL
    by_cases h0 : op ∈ [0, 24] <;> simp [h0]
    all_goals (repeat' split)
    all_goals simp_all
  have m1 : inL op [1, 10] = false := by
    revert hj
    unfold kd inL
    by_cases h1 : op ∈ [1, 10] <;> simp [h1]
    all_goals (repeat' split)
    all_goals simp_all
  have m2 : inL op [2, 22, 23, 25, 26, 27, 28] = false := by
    revert hj
    unfold kd inL
    by_cases h2 : op ∈ [2, 22, 23, 25, 26, 27, 28] <;> simp [h2]
    all_goals (repeat' split)
    all_goals simp_all
  have m3 : inL op [3, 4, 5, 6, 7, 8, 17, 18, 20, 21] = false := by
    revert hj
    unfold kd inL
    by_cases h3 : op ∈ [3, 4, 5, 6, 7, 8, 17, 18, 20, 21] <;> simp [h3]
    all_goals (repeat' split)
    all_goals simp_all
  have m4 : inL op [9] = true := by
    revert hj
    unfold kd inL
    by_cases h4 : op ∈ [9] <;> simp [h4]
    all_goals (repeat' split)
    all_goals simp_all
  clear hj
  go_enter Try.func15, Try.ntmps15
  go_wp2_with fail
  refine Calls.mono (among_ op _ _ [0, 24] _ (sl0 _ _ (by simp [grow_size])) (by simp)) ?_
  rintro e w1 ⟨rfl, hy⟩; obtain ⟨d0, rfl⟩ := hy.grown; clear hy
  go_wp2_with fail
  refine Calls.mono (among_ op _ _ [1, 10] _ (sl1 _ _ (by simp [grow_size])) (by simp)) ?_
  rintro e w1 ⟨rfl, hy⟩; obtain ⟨d1, rfl⟩ := hy.grown; clear hy
  go_wp2_with fail
  refine Calls.mono (among_ op _ _ [2, 22, 23, 25, 26, 27, 28] _ (sl2 _ _ (by simp [grow_size])) (by simp)) ?_
  rintro e w1 ⟨rfl, hy⟩; obtain ⟨d2, rfl⟩ := hy.grown; clear hy
  go_wp2_with fail
  refine Calls.mono (among_ op _ _ [3, 4, 5, 6, 7, 8, 17, 18, 20, 21] _ (sl3 _ _ (by simp [grow_size])) (by simp)) ?_
  rintro e w1 ⟨rfl, hy⟩; obtain ⟨d3, rfl⟩ := hy.grown; clear hy
  go_wp2_with fail
  refine Calls.mono (among_ op _ _ [9] _ (sl4 _ _ (by simp [grow_size])) (by simp)) ?_
  rintro e w1 ⟨rfl, hy⟩; obtain ⟨d4, rfl⟩ := hy.grown; clear hy
  go_wp2
  go_ret
  exact ⟨rfl, (by repeat (first | (with_reducible exact Ext.refl _) | (with_reducible refine Ext.undrew ?_) | (with_reducible refine Ext.grow ?_ _) | (with_reducible refine Ext.drew ?_) | (with_reducible refine Ext.drewN ?_ _) | (with_reducible refine Ext.alloc ?_ _) | (with_reducible assumption) | ((with_reducible refine Ext.setCell ?_ ?_ _); rotate_left; (first | exact Nat.le_refl _ | ((try dsimp only); (try simp only [World.size_alloc, grow_size, World.size_setCell]); omega)))))⟩

set_option maxRecDepth 100000 in
set_option maxHeartbeats 2000000 in
theorem kinds6 (op : Int) (w : World) (hj : kd op = 6) :
    Calls Try.prog 15 #[.int .i64 op] w fun e w' => e = .returned (.string ⟨#[114, 114, 105]⟩) ∧ Ext w w' := by
  have m0 : inL op [0, 24] = false := by
    revert hj
    unfold kd inL
    by_cases h0 : op ∈ [0, 24] <;> simp [h0]
    all_goals (repeat' split)
    all_goals simp_all
  have m1 : inL op [1, 10] = false := by
    revert hj
    unfold kd inL
    by_cases h1 : op ∈ [1, 10] <;> simp [h1]
    all_goals (repeat' split)
    all_goals simp_all
  have m2 : inL op [2, 22, 23, 25, 26, 27, 28] = false := by
    revert hj
    unfold kd inL
    by_cases h2 : op ∈ [2, 22, 23, 25, 26, 27, 28] <;> simp [h2]
    all_goals (repeat' split)
    all_goals simp_all
  have m3 : inL op [3, 4, 5, 6, 7, 8, 17, 18, 20, 21] = false := by
    revert hj
    unfold kd inL
    by_cases h3 : op ∈ [3, 4, 5, 6, 7, 8, 17, 18, 20, 21] <;> simp [h3]
    all_goals (repeat' split)
    all_goals simp_all
  have m4 : inL op [9] = false := by
    revert hj
    unfold kd inL
    by_cases h4 : op ∈ [9] <;> simp [h4]
    all_goals (repeat' split)
    all_goals simp_all
  have m5 : inL op [11, 12, 13, 14, 15, 16, 19] = true := by
    revert hj
    unfold kd inL
    by_cases h5 : op ∈ [11, 12, 13, 14, 15, 16, 19] <;> simp [h5]
    all_goals (repeat' split)
    all_goals simp_all
  clear hj
  go_enter Try.func15, Try.ntmps15
  go_wp2_with fail
  refine Calls.mono (among_ op _ _ [0, 24] _ (sl0 _ _ (by simp [grow_size])) (by simp)) ?_
  rintro e w1 ⟨rfl, hy⟩; obtain ⟨d0, rfl⟩ := hy.grown; clear hy
  go_wp2_with fail
  refine Calls.mono (among_ op _ _ [1, 10] _ (sl1 _ _ (by simp [grow_size])) (by simp)) ?_
  rintro e w1 ⟨rfl, hy⟩; obtain ⟨d1, rfl⟩ := hy.grown; clear hy
  go_wp2_with fail
  refine Calls.mono (among_ op _ _ [2, 22, 23, 25, 26, 27, 28] _ (sl2 _ _ (by simp [grow_size])) (by simp)) ?_
  rintro e w1 ⟨rfl, hy⟩; obtain ⟨d2, rfl⟩ := hy.grown; clear hy
  go_wp2_with fail
  refine Calls.mono (among_ op _ _ [3, 4, 5, 6, 7, 8, 17, 18, 20, 21] _ (sl3 _ _ (by simp [grow_size])) (by simp)) ?_
  rintro e w1 ⟨rfl, hy⟩; obtain ⟨d3, rfl⟩ := hy.grown; clear hy
  go_wp2_with fail
  refine Calls.mono (among_ op _ _ [9] _ (sl4 _ _ (by simp [grow_size])) (by simp)) ?_
  rintro e w1 ⟨rfl, hy⟩; obtain ⟨d4, rfl⟩ := hy.grown; clear hy
  go_wp2_with fail
  refine Calls.mono (among_ op _ _ [11, 12, 13, 14, 15, 16, 19] _ (sl5 _ _ (by simp [grow_size])) (by simp)) ?_
  rintro e w1 ⟨rfl, hy⟩; obtain ⟨d5, rfl⟩ := hy.grown; clear hy
  go_wp2
  go_ret
  exact ⟨rfl, (by repeat (first | (with_reducible exact Ext.refl _) | (with_reducible refine Ext.undrew ?_) | (with_reducible refine Ext.grow ?_ _) | (with_reducible refine Ext.drew ?_) | (with_reducible refine Ext.drewN ?_ _) | (with_reducible refine Ext.alloc ?_ _) | (with_reducible assumption) | ((with_reducible refine Ext.setCell ?_ ?_ _); rotate_left; (first | exact Nat.le_refl _ | ((try dsimp only); (try simp only [World.size_alloc, grow_size, World.size_setCell]); omega)))))⟩

set_option maxRecDepth 100000 in
set_option maxHeartbeats 2000000 in
theorem kinds7 (op : Int) (w : World) (hj : kd op = 7) :
    Calls Try.prog 15 #[.int .i64 op] w fun e w' => e = .returned (.string ⟨#[105, 45, 45]⟩) ∧ Ext w w' := by
  have m0 : inL op [0, 24] = false := by
    revert hj
    unfold kd inL
    by_cases h0 : op ∈ [0, 24] <;> simp [h0]
    all_goals (repeat' split)
    all_goals simp_all
  have m1 : inL op [1, 10] = false := by
    revert hj
    unfold kd inL
    by_cases h1 : op ∈ [1, 10] <;> simp [h1]
    all_goals (repeat' split)
    all_goals simp_all
  have m2 : inL op [2, 22, 23, 25, 26, 27, 28] = false := by
    revert hj
    unfold kd inL
    by_cases h2 : op ∈ [2, 22, 23, 25, 26, 27, 28] <;> simp [h2]
    all_goals (repeat' split)
    all_goals simp_all
  have m3 : inL op [3, 4, 5, 6, 7, 8, 17, 18, 20, 21] = false := by
    revert hj
    unfold kd inL
    by_cases h3 : op ∈ [3, 4, 5, 6, 7, 8, 17, 18, 20, 21] <;> simp [h3]
    all_goals (repeat' split)
    all_goals simp_all
  have m4 : inL op [9] = false := by
    revert hj
    unfold kd inL
    by_cases h4 : op ∈ [9] <;> simp [h4]
    all_goals (repeat' split)
    all_goals simp_all
  have m5 : inL op [11, 12, 13, 14, 15, 16, 19] = false := by
    revert hj
    unfold kd inL
    by_cases h5 : op ∈ [11, 12, 13, 14, 15, 16, 19] <;> simp [h5]
    all_goals (repeat' split)
    all_goals simp_all
  have m6 : inL op [29] = true := by
    revert hj
    unfold kd inL
    by_cases h6 : op ∈ [29] <;> simp [h6]
    all_goals (repeat' split)
    all_goals simp_all
  clear hj
  go_enter Try.func15, Try.ntmps15
  go_wp2_with fail
  refine Calls.mono (among_ op _ _ [0, 24] _ (sl0 _ _ (by simp [grow_size])) (by simp)) ?_
  rintro e w1 ⟨rfl, hy⟩; obtain ⟨d0, rfl⟩ := hy.grown; clear hy
  go_wp2_with fail
  refine Calls.mono (among_ op _ _ [1, 10] _ (sl1 _ _ (by simp [grow_size])) (by simp)) ?_
  rintro e w1 ⟨rfl, hy⟩; obtain ⟨d1, rfl⟩ := hy.grown; clear hy
  go_wp2_with fail
  refine Calls.mono (among_ op _ _ [2, 22, 23, 25, 26, 27, 28] _ (sl2 _ _ (by simp [grow_size])) (by simp)) ?_
  rintro e w1 ⟨rfl, hy⟩; obtain ⟨d2, rfl⟩ := hy.grown; clear hy
  go_wp2_with fail
  refine Calls.mono (among_ op _ _ [3, 4, 5, 6, 7, 8, 17, 18, 20, 21] _ (sl3 _ _ (by simp [grow_size])) (by simp)) ?_
  rintro e w1 ⟨rfl, hy⟩; obtain ⟨d3, rfl⟩ := hy.grown; clear hy
  go_wp2_with fail
  refine Calls.mono (among_ op _ _ [9] _ (sl4 _ _ (by simp [grow_size])) (by simp)) ?_
  rintro e w1 ⟨rfl, hy⟩; obtain ⟨d4, rfl⟩ := hy.grown; clear hy
  go_wp2_with fail
  refine Calls.mono (among_ op _ _ [11, 12, 13, 14, 15, 16, 19] _ (sl5 _ _ (by simp [grow_size])) (by simp)) ?_
  rintro e w1 ⟨rfl, hy⟩; obtain ⟨d5, rfl⟩ := hy.grown; clear hy
  go_wp2_with fail
  refine Calls.mono (among_ op _ _ [29] _ (sl6 _ _ (by simp [grow_size])) (by simp)) ?_
  rintro e w1 ⟨rfl, hy⟩; obtain ⟨d6, rfl⟩ := hy.grown; clear hy
  go_wp2
  go_ret
  exact ⟨rfl, (by repeat (first | (with_reducible exact Ext.refl _) | (with_reducible refine Ext.undrew ?_) | (with_reducible refine Ext.grow ?_ _) | (with_reducible refine Ext.drew ?_) | (with_reducible refine Ext.drewN ?_ _) | (with_reducible refine Ext.alloc ?_ _) | (with_reducible assumption) | ((with_reducible refine Ext.setCell ?_ ?_ _); rotate_left; (first | exact Nat.le_refl _ | ((try dsimp only); (try simp only [World.size_alloc, grow_size, World.size_setCell]); omega)))))⟩

set_option maxRecDepth 100000 in
set_option maxHeartbeats 4000000 in
theorem rkinds (op : Int) (w : World) :
    Calls Try.prog 16 #[.int .i64 op] w fun e w' => e = .returned (.string (kstr (kd op))) ∧ w = w' := by
  go_enter Try.func16, Try.ntmps16
  go_wp2
  all_goals go_ret
  all_goals (refine ⟨?_, rfl⟩; simp_all [kd, kstr])


end Go.Proofs.Ytcbniifpbcgamaa
