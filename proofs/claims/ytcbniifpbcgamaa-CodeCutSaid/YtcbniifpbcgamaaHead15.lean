/- Layer 15: the live question. -/
import Derived.Test.YtcbniifpbcgamaaCodL
import Derived.Test.YtcbniifpbcgamaaCodP
namespace Go.Proofs.Ytcbniifpbcgamaa
set_option linter.unusedSimpArgs false
set_option linter.unusedVariables false
open Go.RowKit


theorem rdb_new (w : World) (l : List Int) (q : Nat) (hq : q = w.heap.size) : RdB (w.alloc (.cells (bvals l).toArray 5)) (some ⟨q, 0, none⟩) l := fun _ => by
  subst hq
  exact ⟨_, _, rfl, by simp, fun j hj => by simp [go_sem, bvals, hj]⟩
theorem run_strN {P : Program} (w : World) (src dst e : TypeId) (hs : P.underlying src = some (.slice e)) (he : P.underlying e = some (.int .u8)) (hd : P.underlying dst = some .string) (A : Option Addr) (c : Nat) (ns : List Int) (n : Nat) (hn : ns.length = n)
    (h : RdB w A ns) (h0 : ns = [] → A = none) : (convert src dst (.slice A n c)).run P w = .ok (.string (strOf ns)) w := by
  subst hn
  exact run_str_any w src dst e hs he hd A c ns h h0

set_option maxRecDepth 100000 in
set_option maxHeartbeats 8000000 in
theorem head (w : World) : Calls Try.prog 10 #[] w fun e w' => e = .returned (.bool true) ∧ Ext w w' := by
  have R1 := hid (show rightI 1 1 (-1) 0 = true from by decide)
  have P1 := hid (show putI 1 1 (-1) 0 = [1, 1, 255, 255] from by decide)
  have G2 := hid (show getR 11 2 3 200 = .tuple #[.agg #[.int .i64 (11), .int .i64 (2), .int .i64 (3), .int .i64 (200)], .int .i64 0] from by rfl)
  have G3 := hid (show getR 11 8 3 200 = .tuple #[.agg #[.int .i64 0, .int .i64 0, .int .i64 0, .int .i64 0], .int .i64 151] from by rfl)
  have G4 := hid (show getR 30 0 0 0 = .tuple #[.agg #[.int .i64 0, .int .i64 0, .int .i64 0, .int .i64 0], .int .i64 151] from by rfl)
  have S5 := hid (show Stop [0, 0, 0, 0, 9, 0, 255, 254] 2 from ⟨by decide, by decide, .inl (by decide)⟩)
  have S6 := hid (show Stop [0, 0, 0, 0, 9, 1, 255, 254] 1 from ⟨by decide, by decide, .inr (.inl ⟨by decide, by decide⟩)⟩)
  have ET := hid (show strOf [1, 1, 255, 255] = ⟨#[1, 1, 255, 255]⟩ from by rfl)
  have E0 : insK [0, 0, 0, 0, 9, 0, 255, 254] 0 = ⟨0, 0, 0, 0⟩ := by rfl
  have E1 : insK [0, 0, 0, 0, 9, 0, 255, 254] 1 = ⟨9, 0, -2, 0⟩ := by rfl
  have K7 := hid (show kd 29 = 7 from by decide)
  have K0 := hid (show kd 30 = 0 from by decide)
  go_enter Try.func10, Try.ntmps10
  go_wp2_with fail
  refine Calls.mono (put_yes 1 1 (-1) 0 _ R1.out) ?_
  rintro e w1 ⟨q, ca, rfl, hl, hm, hq, hr1, hw1⟩
  rw [P1.out] at hr1
  go_wp2_with fail
  refine Calls.mono (get_all _ 0 4 11 2 3 200 _ (by exact rdb_new _ [11, 2, 3, 200] _ (by simp [grow_size])) (by omega) (by decide) ⟨by decide, by decide⟩ ⟨by decide, by decide⟩ ⟨by decide, by decide⟩ ⟨by decide, by decide⟩) ?_
  rw [G2.out]
  rintro e w2 ⟨rfl, hy⟩
  have hz2 : Ext w1 w2 := Ext.trans (by repeat (first | (with_reducible exact Ext.refl _) | (with_reducible refine Ext.undrew ?_) | (with_reducible refine Ext.grow ?_ _) | (with_reducible refine Ext.drew ?_) | (with_reducible refine Ext.drewN ?_ _) | (with_reducible refine Ext.alloc ?_ _) | (with_reducible assumption) | ((with_reducible refine Ext.setCell ?_ ?_ _); rotate_left; (first | exact Nat.le_refl _ | ((try dsimp only); (try simp only [World.size_alloc, grow_size, World.size_setCell]); omega))))) hy
  have hr2 := RdB.ext hr1 hz2
  have hw2 : Ext w w2 := Ext.trans hw1 hz2
  clear hy hz2 hr1 hw1
  go_wp2_with fail
  refine Calls.mono (get_all _ 0 4 11 8 3 200 _ (by exact rdb_new _ [11, 8, 3, 200] _ (by simp [grow_size])) (by omega) (by decide) ⟨by decide, by decide⟩ ⟨by decide, by decide⟩ ⟨by decide, by decide⟩ ⟨by decide, by decide⟩) ?_
  rw [G3.out]
  rintro e w3 ⟨rfl, hy⟩
  have hz3 : Ext w2 w3 := Ext.trans (by repeat (first | (with_reducible exact Ext.refl _) | (with_reducible refine Ext.undrew ?_) | (with_reducible refine Ext.grow ?_ _) | (with_reducible refine Ext.drew ?_) | (with_reducible refine Ext.drewN ?_ _) | (with_reducible refine Ext.alloc ?_ _) | (with_reducible assumption) | ((with_reducible refine Ext.setCell ?_ ?_ _); rotate_left; (first | exact Nat.le_refl _ | ((try dsimp only); (try simp only [World.size_alloc, grow_size, World.size_setCell]); omega))))) hy
  have a0 : w3.cell? ⟨w2.heap.size, 0, none⟩ = some (.int .i64 11) := (hy.cells _ _ (by simp only [World.size_alloc]; omega)).trans (by simp [go_sem])
  have a1 : w3.cell? ⟨w2.heap.size, 1, none⟩ = some (.int .i64 2) := (hy.cells _ _ (by simp only [World.size_alloc]; omega)).trans (by simp [go_sem])
  have a2 : w3.cell? ⟨w2.heap.size, 2, none⟩ = some (.int .i64 3) := (hy.cells _ _ (by simp only [World.size_alloc]; omega)).trans (by simp [go_sem])
  have a3 : w3.cell? ⟨w2.heap.size, 3, none⟩ = some (.int .i64 200) := (hy.cells _ _ (by simp only [World.size_alloc]; omega)).trans (by simp [go_sem])
  have hn : w2.heap.size < w3.heap.size := by have := hy.size; simp at this; omega
  generalize w2.heap.size = n2 at a0 a1 a2 a3 hn ⊢
  have hr3 := RdB.ext hr2 hz3
  have hw3 : Ext w w3 := Ext.trans hw2 hz3
  clear hy hz3 hr2 hw2
  go_wp2_with fail
  refine Calls.mono (get_all _ 0 4 30 0 0 0 _ (by exact rdb_new _ [30, 0, 0, 0] _ (by simp [grow_size])) (by omega) (by decide) ⟨by decide, by decide⟩ ⟨by decide, by decide⟩ ⟨by decide, by decide⟩ ⟨by decide, by decide⟩) ?_
  rw [G4.out]
  rintro e w4 ⟨rfl, hy⟩
  have hz4 : Ext w3 w4 := Ext.trans (by repeat (first | (with_reducible exact Ext.refl _) | (with_reducible refine Ext.undrew ?_) | (with_reducible refine Ext.grow ?_ _) | (with_reducible refine Ext.drew ?_) | (with_reducible refine Ext.drewN ?_ _) | (with_reducible refine Ext.alloc ?_ _) | (with_reducible assumption) | ((with_reducible refine Ext.setCell ?_ ?_ _); rotate_left; (first | exact Nat.le_refl _ | ((try dsimp only); (try simp only [World.size_alloc, grow_size, World.size_setCell]); omega))))) hy
  replace a0 := (hz4.cells n2 0 hn).trans a0
  replace a1 := (hz4.cells n2 1 hn).trans a1
  replace a2 := (hz4.cells n2 2 hn).trans a2
  replace a3 := (hz4.cells n2 3 hn).trans a3
  replace hn := Nat.lt_of_lt_of_le hn hz4.size
  have hr4 := RdB.ext hr3 hz4
  have hw4 : Ext w w4 := Ext.trans hw3 hz4
  clear hy hz4 hr3 hw3
  go_wp2_with fail
  refine Calls.mono (get_len _ 3 _ _ (by decide)) ?_
  rintro e w5 ⟨rfl, hy⟩
  have hz5 : Ext w4 w5 := Ext.trans (by repeat (first | (with_reducible exact Ext.refl _) | (with_reducible refine Ext.undrew ?_) | (with_reducible refine Ext.grow ?_ _) | (with_reducible refine Ext.drew ?_) | (with_reducible refine Ext.drewN ?_ _) | (with_reducible refine Ext.alloc ?_ _) | (with_reducible assumption) | ((with_reducible refine Ext.setCell ?_ ?_ _); rotate_left; (first | exact Nat.le_refl _ | ((try dsimp only); (try simp only [World.size_alloc, grow_size, World.size_setCell]); omega))))) hy
  replace a0 := (hz5.cells n2 0 hn).trans a0
  replace a1 := (hz5.cells n2 1 hn).trans a1
  replace a2 := (hz5.cells n2 2 hn).trans a2
  replace a3 := (hz5.cells n2 3 hn).trans a3
  replace hn := Nat.lt_of_lt_of_le hn hz5.size
  have hr5 := RdB.ext hr4 hz5
  have hw5 : Ext w w5 := Ext.trans hw4 hz5
  clear hy hz5 hr4 hw4
  go_wp2_with fail
  refine Calls.mono (all_ _ _ [0, 0, 0, 0, 9, 0, 255, 254] _ (by exact rdb_new _ [0, 0, 0, 0, 9, 0, 255, 254] _ (by simp [grow_size])) (by intro n hn; simp at hn; omega) (by decide) (by decide) (by decide)) ?_
  intro e w6 hp
  obtain ⟨hy, A, cb, rfl, hri⟩ := hp.full S5.out (by decide)
  clear hp
  have hz6 : Ext w5 w6 := Ext.trans (by repeat (first | (with_reducible exact Ext.refl _) | (with_reducible refine Ext.undrew ?_) | (with_reducible refine Ext.grow ?_ _) | (with_reducible refine Ext.drew ?_) | (with_reducible refine Ext.drewN ?_ _) | (with_reducible refine Ext.alloc ?_ _) | (with_reducible assumption) | ((with_reducible refine Ext.setCell ?_ ?_ _); rotate_left; (first | exact Nat.le_refl _ | ((try dsimp only); (try simp only [World.size_alloc, grow_size, World.size_setCell]); omega))))) hy
  replace a0 := (hz6.cells n2 0 hn).trans a0
  replace a1 := (hz6.cells n2 1 hn).trans a1
  replace a2 := (hz6.cells n2 2 hn).trans a2
  replace a3 := (hz6.cells n2 3 hn).trans a3
  replace hn := Nat.lt_of_lt_of_le hn hz6.size
  have hr6 := RdB.ext hr5 hz6
  have hw6 : Ext w w6 := Ext.trans hw5 hz6
  clear hy hz6 hr5 hw5
  go_wp2_with fail
  refine Calls.mono (all_ _ _ [0, 0, 0, 0, 9, 1, 255, 254] _ (by exact rdb_new _ [0, 0, 0, 0, 9, 1, 255, 254] _ (by simp [grow_size])) (by intro n hn; simp at hn; omega) (by decide) (by decide) (by decide)) ?_
  intro e w7 hp
  obtain ⟨rfl, hy⟩ := hp.bad S6.out (by decide)
  clear hp
  have hri7 := hri.ext (Ext.trans (by repeat (first | (with_reducible exact Ext.refl _) | (with_reducible refine Ext.undrew ?_) | (with_reducible refine Ext.grow ?_ _) | (with_reducible refine Ext.drew ?_) | (with_reducible refine Ext.drewN ?_ _) | (with_reducible refine Ext.alloc ?_ _) | (with_reducible assumption) | ((with_reducible refine Ext.setCell ?_ ?_ _); rotate_left; (first | exact Nat.le_refl _ | ((try dsimp only); (try simp only [World.size_alloc, grow_size, World.size_setCell]); omega))))) hy)
  have hz7 : Ext w6 w7 := Ext.trans (by repeat (first | (with_reducible exact Ext.refl _) | (with_reducible refine Ext.undrew ?_) | (with_reducible refine Ext.grow ?_ _) | (with_reducible refine Ext.drew ?_) | (with_reducible refine Ext.drewN ?_ _) | (with_reducible refine Ext.alloc ?_ _) | (with_reducible assumption) | ((with_reducible refine Ext.setCell ?_ ?_ _); rotate_left; (first | exact Nat.le_refl _ | ((try dsimp only); (try simp only [World.size_alloc, grow_size, World.size_setCell]); omega))))) hy
  replace a0 := (hz7.cells n2 0 hn).trans a0
  replace a1 := (hz7.cells n2 1 hn).trans a1
  replace a2 := (hz7.cells n2 2 hn).trans a2
  replace a3 := (hz7.cells n2 3 hn).trans a3
  replace hn := Nat.lt_of_lt_of_le hn hz7.size
  have hr7 := RdB.ext hr6 hz7
  have hw7 : Ext w w7 := Ext.trans hw6 hz7
  clear hy hz7 hr6 hw6
  have HRI := hid hri7
  have HR := hid hr7
  clear hri hri7 hr7
  go_wp2_with fail
  rw [run_strN _ 24 9 5 Try.underlying24 Try.underlying5 Try.underlying9 (some ⟨q, 0, none⟩) ca [1, 1, 255, 255] 4 rfl HR.out (by simp)]
  rw [ET.out]
  go_wp2_with fail
  refine Calls.mono (same_ _ _ 2 _ _ (insK [0, 0, 0, 0, 9, 0, 255, 254]) _ (HRI.out.ext (by repeat (first | (with_reducible exact Ext.refl _) | (with_reducible refine Ext.undrew ?_) | (with_reducible refine Ext.grow ?_ _) | (with_reducible refine Ext.drew ?_) | (with_reducible refine Ext.drewN ?_ _) | (with_reducible refine Ext.alloc ?_ _) | (with_reducible assumption) | ((with_reducible refine Ext.setCell ?_ ?_ _); rotate_left; (first | exact Nat.le_refl _ | ((try dsimp only); (try simp only [World.size_alloc, grow_size, World.size_setCell]); omega)))))) (fun _ => ⟨_, _, rfl, by simp, fun i hi => by
    match i, hi with
    | 0, _ => simp [go_sem, E0]
    | 1, _ => simp [go_sem, E1]⟩) (by omega)) ?_
  rintro e w8 ⟨rfl, hy⟩
  obtain ⟨d8, rfl⟩ := hy.grown
  clear hy
  go_wp2_with fail
  refine Calls.mono (kinds7 29 _ K7.out) ?_
  rintro e w' ⟨rfl, hy⟩
  obtain ⟨d9, rfl⟩ := hy.grown
  clear hy
  go_wp2_with fail
  refine Calls.mono (kinds0 30 _ K0.out) ?_
  rintro e w' ⟨rfl, hy⟩
  obtain ⟨d10, rfl⟩ := hy.grown
  clear hy
  go_wp2
  go_ret
  exact ⟨rfl, (by repeat (first | (with_reducible exact Ext.refl _) | (with_reducible refine Ext.undrew ?_) | (with_reducible refine Ext.grow ?_ _) | (with_reducible refine Ext.drew ?_) | (with_reducible refine Ext.drewN ?_ _) | (with_reducible refine Ext.alloc ?_ _) | (with_reducible assumption) | ((with_reducible refine Ext.setCell ?_ ?_ _); rotate_left; (first | exact Nat.le_refl _ | ((try dsimp only); (try simp only [World.size_alloc, grow_size, World.size_setCell]); omega)))))⟩

end Go.Proofs.Ytcbniifpbcgamaa
