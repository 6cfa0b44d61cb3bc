/- Layer 20: the map of operations. -/
import Derived.Test.YtemeckdjkjnieaaAluA
namespace Go.Proofs.Ytemeckdjkjnieaa
set_option linter.unusedSimpArgs false
set_option linter.unusedVariables false
open Go.RowKit


/-- The map of all operations, and what its closures have captured. -/
structure OpsAt (w : World) (g p3 p4 p5 p7 q7 p8 q8 : Nat) : Prop where
  map : w.heap[g]? = some (.map #[⟨.int .i64 3, .agg #[.func (.func 29) #[] #[.pointer (some ⟨p3, 0, none⟩)]], 0⟩, ⟨.int .i64 4, .agg #[.func (.func 29) #[] #[.pointer (some ⟨p4, 0, none⟩)]], 1⟩, ⟨.int .i64 5, .agg #[.func (.func 29) #[] #[.pointer (some ⟨p5, 0, none⟩)]], 2⟩, ⟨.int .i64 6, .agg #[.func (.func 25) #[] #[]], 3⟩, ⟨.int .i64 7, .agg #[.func (.func 29) #[] #[.pointer (some ⟨p7, 0, none⟩)]], 4⟩, ⟨.int .i64 8, .agg #[.func (.func 29) #[] #[.pointer (some ⟨p8, 0, none⟩)]], 5⟩] 6)
  lp3 : p3 < w.heap.size
  cp3 : w.cell? ⟨p3, 0, none⟩ = some (.func (.func 22) #[] #[])
  lp4 : p4 < w.heap.size
  cp4 : w.cell? ⟨p4, 0, none⟩ = some (.func (.func 23) #[] #[])
  lp5 : p5 < w.heap.size
  cp5 : w.cell? ⟨p5, 0, none⟩ = some (.func (.func 24) #[] #[])
  lp7 : p7 < w.heap.size
  cp7 : w.cell? ⟨p7, 0, none⟩ = some (.func (.func 30) #[] #[.pointer (some ⟨q7, 0, none⟩)])
  lq7 : q7 < w.heap.size
  cq7 : w.cell? ⟨q7, 0, none⟩ = some (.func (.func 27) #[] #[])
  lp8 : p8 < w.heap.size
  cp8 : w.cell? ⟨p8, 0, none⟩ = some (.func (.func 30) #[] #[.pointer (some ⟨q8, 0, none⟩)])
  lq8 : q8 < w.heap.size
  cq8 : w.cell? ⟨q8, 0, none⟩ = some (.func (.func 28) #[] #[])

theorem cell_ext {w w' : World} {p : Nat} {v : Value} (x : Ext w w') (h : p < w.heap.size ∧ w.cell? ⟨p, 0, none⟩ = some v) : p < w'.heap.size ∧ w'.cell? ⟨p, 0, none⟩ = some v :=
  ⟨Nat.lt_of_lt_of_le h.1 x.size, by rw [x.cells p _ h.1]; exact h.2⟩
theorem cell_put {w : World} {p g : Nat} {v : Value} (hn : g ≠ p) (es : Array MapEntry) (c : Nat) (h : p < w.heap.size ∧ w.cell? ⟨p, 0, none⟩ = some v) : p < (putMap w g es c).heap.size ∧ (putMap w g es c).cell? ⟨p, 0, none⟩ = some v :=
  ⟨by rw [putMap_size]; exact h.1, by rw [putMap_cell w hn]; exact h.2⟩

set_option maxRecDepth 100000 in
set_option maxHeartbeats 2000000 in
theorem operations (w : World) : Calls Try.prog 19 #[] w fun e w' => ∃ g p3 p4 p5 p7 q7 p8 q8, e = .returned (.map (some g)) ∧ Ext w w' ∧ OpsAt w' g p3 p4 p5 p7 q7 p8 q8 := by
  have hmm := @run_makeMap Try.prog
  go_enter Try.func19, Try.ntmps19
  go_wp2_with fail
  obtain ⟨w0, hw0⟩ : ∃ w0, w0 = w.alloc (.map #[] 0) := ⟨_, rfl⟩
  have x0 : Hid (Ext w w0) := hid (by rw [hw0]; exact Ext.alloc (Ext.refl w) _)
  have m0 : Hid (w0.heap[w.heap.size]? = some (.map #[] 0)) := hid (by rw [hw0]; exact (by simp : (w.heap.push (Obj.map #[] 0))[w.heap.size]? = some (Obj.map #[] 0)))
  have s0 : w.heap.size < w0.heap.size := by rw [hw0]; simp
  rw [← hw0]
  clear hw0 hmm
  refine (fine_ 22 #[] _).mono ?_; rintro e w1 ⟨p3, rfl, y, a, l, c⟩
  have x1 : Hid (Ext w w1) := hid (x0.out.trans y)
  have m1 : Hid (w1.heap[w.heap.size]? = _) := hid ((y.block _ s0).trans m0.out)
  have s1 : w.heap.size < w1.heap.size := Nat.lt_of_lt_of_le s0 y.size
  have p3_1 := hid (And.intro l c)
  have p3n : w.heap.size ≠ p3 := by omega
  clear y a l c x0 m0 s0
  go_wp2_with fail
  rw [run_insert Try.underlying43 Try.underlying3 w1 m1.out 3 _ rfl]
  obtain ⟨w2, hw⟩ : ∃ w', w' = putMap w1 w.heap.size #[⟨.int .i64 3, .agg #[.func (.func 29) #[] #[.pointer (some ⟨p3, 0, none⟩)]], 0⟩] 1 := ⟨_, rfl⟩
  have x2 : Hid (Ext w w2) := hid (by rw [hw]; exact Ext.putMap x1.out (Nat.le_refl _) _ _)
  have m2 : Hid (w2.heap[w.heap.size]? = some (.map #[⟨.int .i64 3, .agg #[.func (.func 29) #[] #[.pointer (some ⟨p3, 0, none⟩)]], 0⟩] 1)) := hid (by rw [hw]; exact putMap_self s1 _ _)
  have s2 : w.heap.size < w2.heap.size := by rw [hw, putMap_size]; exact s1
  have p3_2 := hid (cell_put p3n #[⟨.int .i64 3, .agg #[.func (.func 29) #[] #[.pointer (some ⟨p3, 0, none⟩)]], 0⟩] 1 p3_1.out)
  rw [← hw] at p3_2
  clear p3_1
  have hw' : putMap w1 w.heap.size (#[].push (⟨.int .i64 3, .agg #[.func (.func 29) #[] #[.pointer (some ⟨p3, 0, none⟩)]], 0⟩ : MapEntry)) (0 + 1) = w2 := hw.symm
  rw [hw']
  clear hw hw' x1 m1 s1
  go_wp2_with fail
  refine (fine_ 23 #[] _).mono ?_; rintro e w3 ⟨p4, rfl, y, a, l, c⟩
  have x3 : Hid (Ext w w3) := hid (x2.out.trans y)
  have m3 : Hid (w3.heap[w.heap.size]? = _) := hid ((y.block _ s2).trans m2.out)
  have s3 : w.heap.size < w3.heap.size := Nat.lt_of_lt_of_le s2 y.size
  have p3_3 := hid (cell_ext y p3_2.out)
  clear p3_2
  have p4_3 := hid (And.intro l c)
  have p4n : w.heap.size ≠ p4 := by omega
  clear y a l c x2 m2 s2
  go_wp2_with fail
  rw [run_insert Try.underlying43 Try.underlying3 w3 m3.out 4 _ rfl]
  obtain ⟨w4, hw⟩ : ∃ w', w' = putMap w3 w.heap.size #[⟨.int .i64 3, .agg #[.func (.func 29) #[] #[.pointer (some ⟨p3, 0, none⟩)]], 0⟩, ⟨.int .i64 4, .agg #[.func (.func 29) #[] #[.pointer (some ⟨p4, 0, none⟩)]], 1⟩] 2 := ⟨_, rfl⟩
  have x4 : Hid (Ext w w4) := hid (by rw [hw]; exact Ext.putMap x3.out (Nat.le_refl _) _ _)
  have m4 : Hid (w4.heap[w.heap.size]? = some (.map #[⟨.int .i64 3, .agg #[.func (.func 29) #[] #[.pointer (some ⟨p3, 0, none⟩)]], 0⟩, ⟨.int .i64 4, .agg #[.func (.func 29) #[] #[.pointer (some ⟨p4, 0, none⟩)]], 1⟩] 2)) := hid (by rw [hw]; exact putMap_self s3 _ _)
  have s4 : w.heap.size < w4.heap.size := by rw [hw, putMap_size]; exact s3
  have p3_4 := hid (cell_put p3n #[⟨.int .i64 3, .agg #[.func (.func 29) #[] #[.pointer (some ⟨p3, 0, none⟩)]], 0⟩, ⟨.int .i64 4, .agg #[.func (.func 29) #[] #[.pointer (some ⟨p4, 0, none⟩)]], 1⟩] 2 p3_3.out)
  rw [← hw] at p3_4
  clear p3_3
  have p4_4 := hid (cell_put p4n #[⟨.int .i64 3, .agg #[.func (.func 29) #[] #[.pointer (some ⟨p3, 0, none⟩)]], 0⟩, ⟨.int .i64 4, .agg #[.func (.func 29) #[] #[.pointer (some ⟨p4, 0, none⟩)]], 1⟩] 2 p4_3.out)
  rw [← hw] at p4_4
  clear p4_3
  have hw' : putMap w3 w.heap.size (#[⟨.int .i64 3, .agg #[.func (.func 29) #[] #[.pointer (some ⟨p3, 0, none⟩)]], 0⟩].push (⟨.int .i64 4, .agg #[.func (.func 29) #[] #[.pointer (some ⟨p4, 0, none⟩)]], 1⟩ : MapEntry)) (1 + 1) = w4 := hw.symm
  rw [hw']
  clear hw hw' x3 m3 s3
  go_wp2_with fail
  refine (fine_ 24 #[] _).mono ?_; rintro e w5 ⟨p5, rfl, y, a, l, c⟩
  have x5 : Hid (Ext w w5) := hid (x4.out.trans y)
  have m5 : Hid (w5.heap[w.heap.size]? = _) := hid ((y.block _ s4).trans m4.out)
  have s5 : w.heap.size < w5.heap.size := Nat.lt_of_lt_of_le s4 y.size
  have p3_5 := hid (cell_ext y p3_4.out)
  clear p3_4
  have p4_5 := hid (cell_ext y p4_4.out)
  clear p4_4
  have p5_5 := hid (And.intro l c)
  have p5n : w.heap.size ≠ p5 := by omega
  clear y a l c x4 m4 s4
  go_wp2_with fail
  rw [run_insert Try.underlying43 Try.underlying3 w5 m5.out 5 _ rfl]
  obtain ⟨w6, hw⟩ : ∃ w', w' = putMap w5 w.heap.size #[⟨.int .i64 3, .agg #[.func (.func 29) #[] #[.pointer (some ⟨p3, 0, none⟩)]], 0⟩, ⟨.int .i64 4, .agg #[.func (.func 29) #[] #[.pointer (some ⟨p4, 0, none⟩)]], 1⟩, ⟨.int .i64 5, .agg #[.func (.func 29) #[] #[.pointer (some ⟨p5, 0, none⟩)]], 2⟩] 3 := ⟨_, rfl⟩
  have x6 : Hid (Ext w w6) := hid (by rw [hw]; exact Ext.putMap x5.out (Nat.le_refl _) _ _)
  have m6 : Hid (w6.heap[w.heap.size]? = some (.map #[⟨.int .i64 3, .agg #[.func (.func 29) #[] #[.pointer (some ⟨p3, 0, none⟩)]], 0⟩, ⟨.int .i64 4, .agg #[.func (.func 29) #[] #[.pointer (some ⟨p4, 0, none⟩)]], 1⟩, ⟨.int .i64 5, .agg #[.func (.func 29) #[] #[.pointer (some ⟨p5, 0, none⟩)]], 2⟩] 3)) := hid (by rw [hw]; exact putMap_self s5 _ _)
  have s6 : w.heap.size < w6.heap.size := by rw [hw, putMap_size]; exact s5
  have p3_6 := hid (cell_put p3n #[⟨.int .i64 3, .agg #[.func (.func 29) #[] #[.pointer (some ⟨p3, 0, none⟩)]], 0⟩, ⟨.int .i64 4, .agg #[.func (.func 29) #[] #[.pointer (some ⟨p4, 0, none⟩)]], 1⟩, ⟨.int .i64 5, .agg #[.func (.func 29) #[] #[.pointer (some ⟨p5, 0, none⟩)]], 2⟩] 3 p3_5.out)
  rw [← hw] at p3_6
  clear p3_5
  have p4_6 := hid (cell_put p4n #[⟨.int .i64 3, .agg #[.func (.func 29) #[] #[.pointer (some ⟨p3, 0, none⟩)]], 0⟩, ⟨.int .i64 4, .agg #[.func (.func 29) #[] #[.pointer (some ⟨p4, 0, none⟩)]], 1⟩, ⟨.int .i64 5, .agg #[.func (.func 29) #[] #[.pointer (some ⟨p5, 0, none⟩)]], 2⟩] 3 p4_5.out)
  rw [← hw] at p4_6
  clear p4_5
  have p5_6 := hid (cell_put p5n #[⟨.int .i64 3, .agg #[.func (.func 29) #[] #[.pointer (some ⟨p3, 0, none⟩)]], 0⟩, ⟨.int .i64 4, .agg #[.func (.func 29) #[] #[.pointer (some ⟨p4, 0, none⟩)]], 1⟩, ⟨.int .i64 5, .agg #[.func (.func 29) #[] #[.pointer (some ⟨p5, 0, none⟩)]], 2⟩] 3 p5_5.out)
  rw [← hw] at p5_6
  clear p5_5
  have hw' : putMap w5 w.heap.size (#[⟨.int .i64 3, .agg #[.func (.func 29) #[] #[.pointer (some ⟨p3, 0, none⟩)]], 0⟩, ⟨.int .i64 4, .agg #[.func (.func 29) #[] #[.pointer (some ⟨p4, 0, none⟩)]], 1⟩].push (⟨.int .i64 5, .agg #[.func (.func 29) #[] #[.pointer (some ⟨p5, 0, none⟩)]], 2⟩ : MapEntry)) (2 + 1) = w6 := hw.symm
  rw [hw']
  clear hw hw' x5 m5 s5
  go_wp2_with fail
  rw [run_insert Try.underlying43 Try.underlying3 w6 m6.out 6 _ rfl]
  obtain ⟨w7, hw⟩ : ∃ w', w' = putMap w6 w.heap.size #[⟨.int .i64 3, .agg #[.func (.func 29) #[] #[.pointer (some ⟨p3, 0, none⟩)]], 0⟩, ⟨.int .i64 4, .agg #[.func (.func 29) #[] #[.pointer (some ⟨p4, 0, none⟩)]], 1⟩, ⟨.int .i64 5, .agg #[.func (.func 29) #[] #[.pointer (some ⟨p5, 0, none⟩)]], 2⟩, ⟨.int .i64 6, .agg #[.func (.func 25) #[] #[]], 3⟩] 4 := ⟨_, rfl⟩
  have x7 : Hid (Ext w w7) := hid (by rw [hw]; exact Ext.putMap x6.out (Nat.le_refl _) _ _)
  have m7 : Hid (w7.heap[w.heap.size]? = some (.map #[⟨.int .i64 3, .agg #[.func (.func 29) #[] #[.pointer (some ⟨p3, 0, none⟩)]], 0⟩, ⟨.int .i64 4, .agg #[.func (.func 29) #[] #[.pointer (some ⟨p4, 0, none⟩)]], 1⟩, ⟨.int .i64 5, .agg #[.func (.func 29) #[] #[.pointer (some ⟨p5, 0, none⟩)]], 2⟩, ⟨.int .i64 6, .agg #[.func (.func 25) #[] #[]], 3⟩] 4)) := hid (by rw [hw]; exact putMap_self s6 _ _)
  have s7 : w.heap.size < w7.heap.size := by rw [hw, putMap_size]; exact s6
  have p3_7 := hid (cell_put p3n #[⟨.int .i64 3, .agg #[.func (.func 29) #[] #[.pointer (some ⟨p3, 0, none⟩)]], 0⟩, ⟨.int .i64 4, .agg #[.func (.func 29) #[] #[.pointer (some ⟨p4, 0, none⟩)]], 1⟩, ⟨.int .i64 5, .agg #[.func (.func 29) #[] #[.pointer (some ⟨p5, 0, none⟩)]], 2⟩, ⟨.int .i64 6, .agg #[.func (.func 25) #[] #[]], 3⟩] 4 p3_6.out)
  rw [← hw] at p3_7
  clear p3_6
  have p4_7 := hid (cell_put p4n #[⟨.int .i64 3, .agg #[.func (.func 29) #[] #[.pointer (some ⟨p3, 0, none⟩)]], 0⟩, ⟨.int .i64 4, .agg #[.func (.func 29) #[] #[.pointer (some ⟨p4, 0, none⟩)]], 1⟩, ⟨.int .i64 5, .agg #[.func (.func 29) #[] #[.pointer (some ⟨p5, 0, none⟩)]], 2⟩, ⟨.int .i64 6, .agg #[.func (.func 25) #[] #[]], 3⟩] 4 p4_6.out)
  rw [← hw] at p4_7
  clear p4_6
  have p5_7 := hid (cell_put p5n #[⟨.int .i64 3, .agg #[.func (.func 29) #[] #[.pointer (some ⟨p3, 0, none⟩)]], 0⟩, ⟨.int .i64 4, .agg #[.func (.func 29) #[] #[.pointer (some ⟨p4, 0, none⟩)]], 1⟩, ⟨.int .i64 5, .agg #[.func (.func 29) #[] #[.pointer (some ⟨p5, 0, none⟩)]], 2⟩, ⟨.int .i64 6, .agg #[.func (.func 25) #[] #[]], 3⟩] 4 p5_6.out)
  rw [← hw] at p5_7
  clear p5_6
  have hw' : putMap w6 w.heap.size (#[⟨.int .i64 3, .agg #[.func (.func 29) #[] #[.pointer (some ⟨p3, 0, none⟩)]], 0⟩, ⟨.int .i64 4, .agg #[.func (.func 29) #[] #[.pointer (some ⟨p4, 0, none⟩)]], 1⟩, ⟨.int .i64 5, .agg #[.func (.func 29) #[] #[.pointer (some ⟨p5, 0, none⟩)]], 2⟩].push (⟨.int .i64 6, .agg #[.func (.func 25) #[] #[]], 3⟩ : MapEntry)) (3 + 1) = w7 := hw.symm
  rw [hw']
  clear hw hw' x6 m6 s6
  go_wp2_with fail
  refine (truth_ 27 #[] _).mono ?_; rintro e w8 ⟨p7, q7, rfl, y, a, l, c, a2, l2, c2⟩
  have x8 : Hid (Ext w w8) := hid (x7.out.trans y)
  have m8 : Hid (w8.heap[w.heap.size]? = _) := hid ((y.block _ s7).trans m7.out)
  have s8 : w.heap.size < w8.heap.size := Nat.lt_of_lt_of_le s7 y.size
  have p3_8 := hid (cell_ext y p3_7.out)
  clear p3_7
  have p4_8 := hid (cell_ext y p4_7.out)
  clear p4_7
  have p5_8 := hid (cell_ext y p5_7.out)
  clear p5_7
  have p7_8 := hid (And.intro l c)
  have p7n : w.heap.size ≠ p7 := by omega
  have q7_8 := hid (And.intro l2 c2)
  have q7n : w.heap.size ≠ q7 := by omega
  clear a2 l2 c2
  clear y a l c x7 m7 s7
  go_wp2_with fail
  rw [run_insert Try.underlying43 Try.underlying3 w8 m8.out 7 _ rfl]
  obtain ⟨w9, hw⟩ : ∃ w', w' = putMap w8 w.heap.size #[⟨.int .i64 3, .agg #[.func (.func 29) #[] #[.pointer (some ⟨p3, 0, none⟩)]], 0⟩, ⟨.int .i64 4, .agg #[.func (.func 29) #[] #[.pointer (some ⟨p4, 0, none⟩)]], 1⟩, ⟨.int .i64 5, .agg #[.func (.func 29) #[] #[.pointer (some ⟨p5, 0, none⟩)]], 2⟩, ⟨.int .i64 6, .agg #[.func (.func 25) #[] #[]], 3⟩, ⟨.int .i64 7, .agg #[.func (.func 29) #[] #[.pointer (some ⟨p7, 0, none⟩)]], 4⟩] 5 := ⟨_, rfl⟩
  have x9 : Hid (Ext w w9) := hid (by rw [hw]; exact Ext.putMap x8.out (Nat.le_refl _) _ _)
  have m9 : Hid (w9.heap[w.heap.size]? = some (.map #[⟨.int .i64 3, .agg #[.func (.func 29) #[] #[.pointer (some ⟨p3, 0, none⟩)]], 0⟩, ⟨.int .i64 4, .agg #[.func (.func 29) #[] #[.pointer (some ⟨p4, 0, none⟩)]], 1⟩, ⟨.int .i64 5, .agg #[.func (.func 29) #[] #[.pointer (some ⟨p5, 0, none⟩)]], 2⟩, ⟨.int .i64 6, .agg #[.func (.func 25) #[] #[]], 3⟩, ⟨.int .i64 7, .agg #[.func (.func 29) #[] #[.pointer (some ⟨p7, 0, none⟩)]], 4⟩] 5)) := hid (by rw [hw]; exact putMap_self s8 _ _)
  have s9 : w.heap.size < w9.heap.size := by rw [hw, putMap_size]; exact s8
  have p3_9 := hid (cell_put p3n #[⟨.int .i64 3, .agg #[.func (.func 29) #[] #[.pointer (some ⟨p3, 0, none⟩)]], 0⟩, ⟨.int .i64 4, .agg #[.func (.func 29) #[] #[.pointer (some ⟨p4, 0, none⟩)]], 1⟩, ⟨.int .i64 5, .agg #[.func (.func 29) #[] #[.pointer (some ⟨p5, 0, none⟩)]], 2⟩, ⟨.int .i64 6, .agg #[.func (.func 25) #[] #[]], 3⟩, ⟨.int .i64 7, .agg #[.func (.func 29) #[] #[.pointer (some ⟨p7, 0, none⟩)]], 4⟩] 5 p3_8.out)
  rw [← hw] at p3_9
  clear p3_8
  have p4_9 := hid (cell_put p4n #[⟨.int .i64 3, .agg #[.func (.func 29) #[] #[.pointer (some ⟨p3, 0, none⟩)]], 0⟩, ⟨.int .i64 4, .agg #[.func (.func 29) #[] #[.pointer (some ⟨p4, 0, none⟩)]], 1⟩, ⟨.int .i64 5, .agg #[.func (.func 29) #[] #[.pointer (some ⟨p5, 0, none⟩)]], 2⟩, ⟨.int .i64 6, .agg #[.func (.func 25) #[] #[]], 3⟩, ⟨.int .i64 7, .agg #[.func (.func 29) #[] #[.pointer (some ⟨p7, 0, none⟩)]], 4⟩] 5 p4_8.out)
  rw [← hw] at p4_9
  clear p4_8
  have p5_9 := hid (cell_put p5n #[⟨.int .i64 3, .agg #[.func (.func 29) #[] #[.pointer (some ⟨p3, 0, none⟩)]], 0⟩, ⟨.int .i64 4, .agg #[.func (.func 29) #[] #[.pointer (some ⟨p4, 0, none⟩)]], 1⟩, ⟨.int .i64 5, .agg #[.func (.func 29) #[] #[.pointer (some ⟨p5, 0, none⟩)]], 2⟩, ⟨.int .i64 6, .agg #[.func (.func 25) #[] #[]], 3⟩, ⟨.int .i64 7, .agg #[.func (.func 29) #[] #[.pointer (some ⟨p7, 0, none⟩)]], 4⟩] 5 p5_8.out)
  rw [← hw] at p5_9
  clear p5_8
  have p7_9 := hid (cell_put p7n #[⟨.int .i64 3, .agg #[.func (.func 29) #[] #[.pointer (some ⟨p3, 0, none⟩)]], 0⟩, ⟨.int .i64 4, .agg #[.func (.func 29) #[] #[.pointer (some ⟨p4, 0, none⟩)]], 1⟩, ⟨.int .i64 5, .agg #[.func (.func 29) #[] #[.pointer (some ⟨p5, 0, none⟩)]], 2⟩, ⟨.int .i64 6, .agg #[.func (.func 25) #[] #[]], 3⟩, ⟨.int .i64 7, .agg #[.func (.func 29) #[] #[.pointer (some ⟨p7, 0, none⟩)]], 4⟩] 5 p7_8.out)
  rw [← hw] at p7_9
  clear p7_8
  have q7_9 := hid (cell_put q7n #[⟨.int .i64 3, .agg #[.func (.func 29) #[] #[.pointer (some ⟨p3, 0, none⟩)]], 0⟩, ⟨.int .i64 4, .agg #[.func (.func 29) #[] #[.pointer (some ⟨p4, 0, none⟩)]], 1⟩, ⟨.int .i64 5, .agg #[.func (.func 29) #[] #[.pointer (some ⟨p5, 0, none⟩)]], 2⟩, ⟨.int .i64 6, .agg #[.func (.func 25) #[] #[]], 3⟩, ⟨.int .i64 7, .agg #[.func (.func 29) #[] #[.pointer (some ⟨p7, 0, none⟩)]], 4⟩] 5 q7_8.out)
  rw [← hw] at q7_9
  clear q7_8
  have hw' : putMap w8 w.heap.size (#[⟨.int .i64 3, .agg #[.func (.func 29) #[] #[.pointer (some ⟨p3, 0, none⟩)]], 0⟩, ⟨.int .i64 4, .agg #[.func (.func 29) #[] #[.pointer (some ⟨p4, 0, none⟩)]], 1⟩, ⟨.int .i64 5, .agg #[.func (.func 29) #[] #[.pointer (some ⟨p5, 0, none⟩)]], 2⟩, ⟨.int .i64 6, .agg #[.func (.func 25) #[] #[]], 3⟩].push (⟨.int .i64 7, .agg #[.func (.func 29) #[] #[.pointer (some ⟨p7, 0, none⟩)]], 4⟩ : MapEntry)) (4 + 1) = w9 := hw.symm
  rw [hw']
  clear hw hw' x8 m8 s8
  go_wp2_with fail
  refine (truth_ 28 #[] _).mono ?_; rintro e w10 ⟨p8, q8, rfl, y, a, l, c, a2, l2, c2⟩
  have x10 : Hid (Ext w w10) := hid (x9.out.trans y)
  have m10 : Hid (w10.heap[w.heap.size]? = _) := hid ((y.block _ s9).trans m9.out)
  have s10 : w.heap.size < w10.heap.size := Nat.lt_of_lt_of_le s9 y.size
  have p3_10 := hid (cell_ext y p3_9.out)
  clear p3_9
  have p4_10 := hid (cell_ext y p4_9.out)
  clear p4_9
  have p5_10 := hid (cell_ext y p5_9.out)
  clear p5_9
  have p7_10 := hid (cell_ext y p7_9.out)
  clear p7_9
  have q7_10 := hid (cell_ext y q7_9.out)
  clear q7_9
  have p8_10 := hid (And.intro l c)
  have p8n : w.heap.size ≠ p8 := by omega
  have q8_10 := hid (And.intro l2 c2)
  have q8n : w.heap.size ≠ q8 := by omega
  clear a2 l2 c2
  clear y a l c x9 m9 s9
  go_wp2_with fail
  rw [run_insert Try.underlying43 Try.underlying3 w10 m10.out 8 _ rfl]
  obtain ⟨w11, hw⟩ : ∃ w', w' = putMap w10 w.heap.size #[⟨.int .i64 3, .agg #[.func (.func 29) #[] #[.pointer (some ⟨p3, 0, none⟩)]], 0⟩, ⟨.int .i64 4, .agg #[.func (.func 29) #[] #[.pointer (some ⟨p4, 0, none⟩)]], 1⟩, ⟨.int .i64 5, .agg #[.func (.func 29) #[] #[.pointer (some ⟨p5, 0, none⟩)]], 2⟩, ⟨.int .i64 6, .agg #[.func (.func 25) #[] #[]], 3⟩, ⟨.int .i64 7, .agg #[.func (.func 29) #[] #[.pointer (some ⟨p7, 0, none⟩)]], 4⟩, ⟨.int .i64 8, .agg #[.func (.func 29) #[] #[.pointer (some ⟨p8, 0, none⟩)]], 5⟩] 6 := ⟨_, rfl⟩
  have x11 : Hid (Ext w w11) := hid (by rw [hw]; exact Ext.putMap x10.out (Nat.le_refl _) _ _)
  have m11 : Hid (w11.heap[w.heap.size]? = some (.map #[⟨.int .i64 3, .agg #[.func (.func 29) #[] #[.pointer (some ⟨p3, 0, none⟩)]], 0⟩, ⟨.int .i64 4, .agg #[.func (.func 29) #[] #[.pointer (some ⟨p4, 0, none⟩)]], 1⟩, ⟨.int .i64 5, .agg #[.func (.func 29) #[] #[.pointer (some ⟨p5, 0, none⟩)]], 2⟩, ⟨.int .i64 6, .agg #[.func (.func 25) #[] #[]], 3⟩, ⟨.int .i64 7, .agg #[.func (.func 29) #[] #[.pointer (some ⟨p7, 0, none⟩)]], 4⟩, ⟨.int .i64 8, .agg #[.func (.func 29) #[] #[.pointer (some ⟨p8, 0, none⟩)]], 5⟩] 6)) := hid (by rw [hw]; exact putMap_self s10 _ _)
  have s11 : w.heap.size < w11.heap.size := by rw [hw, putMap_size]; exact s10
  have p3_11 := hid (cell_put p3n #[⟨.int .i64 3, .agg #[.func (.func 29) #[] #[.pointer (some ⟨p3, 0, none⟩)]], 0⟩, ⟨.int .i64 4, .agg #[.func (.func 29) #[] #[.pointer (some ⟨p4, 0, none⟩)]], 1⟩, ⟨.int .i64 5, .agg #[.func (.func 29) #[] #[.pointer (some ⟨p5, 0, none⟩)]], 2⟩, ⟨.int .i64 6, .agg #[.func (.func 25) #[] #[]], 3⟩, ⟨.int .i64 7, .agg #[.func (.func 29) #[] #[.pointer (some ⟨p7, 0, none⟩)]], 4⟩, ⟨.int .i64 8, .agg #[.func (.func 29) #[] #[.pointer (some ⟨p8, 0, none⟩)]], 5⟩] 6 p3_10.out)
  rw [← hw] at p3_11
  clear p3_10
  have p4_11 := hid (cell_put p4n #[⟨.int .i64 3, .agg #[.func (.func 29) #[] #[.pointer (some ⟨p3, 0, none⟩)]], 0⟩, ⟨.int .i64 4, .agg #[.func (.func 29) #[] #[.pointer (some ⟨p4, 0, none⟩)]], 1⟩, ⟨.int .i64 5, .agg #[.func (.func 29) #[] #[.pointer (some ⟨p5, 0, none⟩)]], 2⟩, ⟨.int .i64 6, .agg #[.func (.func 25) #[] #[]], 3⟩, ⟨.int .i64 7, .agg #[.func (.func 29) #[] #[.pointer (some ⟨p7, 0, none⟩)]], 4⟩, ⟨.int .i64 8, .agg #[.func (.func 29) #[] #[.pointer (some ⟨p8, 0, none⟩)]], 5⟩] 6 p4_10.out)
  rw [← hw] at p4_11
  clear p4_10
  have p5_11 := hid (cell_put p5n #[⟨.int .i64 3, .agg #[.func (.func 29) #[] #[.pointer (some ⟨p3, 0, none⟩)]], 0⟩, ⟨.int .i64 4, .agg #[.func (.func 29) #[] #[.pointer (some ⟨p4, 0, none⟩)]], 1⟩, ⟨.int .i64 5, .agg #[.func (.func 29) #[] #[.pointer (some ⟨p5, 0, none⟩)]], 2⟩, ⟨.int .i64 6, .agg #[.func (.func 25) #[] #[]], 3⟩, ⟨.int .i64 7, .agg #[.func (.func 29) #[] #[.pointer (some ⟨p7, 0, none⟩)]], 4⟩, ⟨.int .i64 8, .agg #[.func (.func 29) #[] #[.pointer (some ⟨p8, 0, none⟩)]], 5⟩] 6 p5_10.out)
  rw [← hw] at p5_11
  clear p5_10
  have p7_11 := hid (cell_put p7n #[⟨.int .i64 3, .agg #[.func (.func 29) #[] #[.pointer (some ⟨p3, 0, none⟩)]], 0⟩, ⟨.int .i64 4, .agg #[.func (.func 29) #[] #[.pointer (some ⟨p4, 0, none⟩)]], 1⟩, ⟨.int .i64 5, .agg #[.func (.func 29) #[] #[.pointer (some ⟨p5, 0, none⟩)]], 2⟩, ⟨.int .i64 6, .agg #[.func (.func 25) #[] #[]], 3⟩, ⟨.int .i64 7, .agg #[.func (.func 29) #[] #[.pointer (some ⟨p7, 0, none⟩)]], 4⟩, ⟨.int .i64 8, .agg #[.func (.func 29) #[] #[.pointer (some ⟨p8, 0, none⟩)]], 5⟩] 6 p7_10.out)
  rw [← hw] at p7_11
  clear p7_10
  have q7_11 := hid (cell_put q7n #[⟨.int .i64 3, .agg #[.func (.func 29) #[] #[.pointer (some ⟨p3, 0, none⟩)]], 0⟩, ⟨.int .i64 4, .agg #[.func (.func 29) #[] #[.pointer (some ⟨p4, 0, none⟩)]], 1⟩, ⟨.int .i64 5, .agg #[.func (.func 29) #[] #[.pointer (some ⟨p5, 0, none⟩)]], 2⟩, ⟨.int .i64 6, .agg #[.func (.func 25) #[] #[]], 3⟩, ⟨.int .i64 7, .agg #[.func (.func 29) #[] #[.pointer (some ⟨p7, 0, none⟩)]], 4⟩, ⟨.int .i64 8, .agg #[.func (.func 29) #[] #[.pointer (some ⟨p8, 0, none⟩)]], 5⟩] 6 q7_10.out)
  rw [← hw] at q7_11
  clear q7_10
  have p8_11 := hid (cell_put p8n #[⟨.int .i64 3, .agg #[.func (.func 29) #[] #[.pointer (some ⟨p3, 0, none⟩)]], 0⟩, ⟨.int .i64 4, .agg #[.func (.func 29) #[] #[.pointer (some ⟨p4, 0, none⟩)]], 1⟩, ⟨.int .i64 5, .agg #[.func (.func 29) #[] #[.pointer (some ⟨p5, 0, none⟩)]], 2⟩, ⟨.int .i64 6, .agg #[.func (.func 25) #[] #[]], 3⟩, ⟨.int .i64 7, .agg #[.func (.func 29) #[] #[.pointer (some ⟨p7, 0, none⟩)]], 4⟩, ⟨.int .i64 8, .agg #[.func (.func 29) #[] #[.pointer (some ⟨p8, 0, none⟩)]], 5⟩] 6 p8_10.out)
  rw [← hw] at p8_11
  clear p8_10
  have q8_11 := hid (cell_put q8n #[⟨.int .i64 3, .agg #[.func (.func 29) #[] #[.pointer (some ⟨p3, 0, none⟩)]], 0⟩, ⟨.int .i64 4, .agg #[.func (.func 29) #[] #[.pointer (some ⟨p4, 0, none⟩)]], 1⟩, ⟨.int .i64 5, .agg #[.func (.func 29) #[] #[.pointer (some ⟨p5, 0, none⟩)]], 2⟩, ⟨.int .i64 6, .agg #[.func (.func 25) #[] #[]], 3⟩, ⟨.int .i64 7, .agg #[.func (.func 29) #[] #[.pointer (some ⟨p7, 0, none⟩)]], 4⟩, ⟨.int .i64 8, .agg #[.func (.func 29) #[] #[.pointer (some ⟨p8, 0, none⟩)]], 5⟩] 6 q8_10.out)
  rw [← hw] at q8_11
  clear q8_10
  have hw' : putMap w10 w.heap.size (#[⟨.int .i64 3, .agg #[.func (.func 29) #[] #[.pointer (some ⟨p3, 0, none⟩)]], 0⟩, ⟨.int .i64 4, .agg #[.func (.func 29) #[] #[.pointer (some ⟨p4, 0, none⟩)]], 1⟩, ⟨.int .i64 5, .agg #[.func (.func 29) #[] #[.pointer (some ⟨p5, 0, none⟩)]], 2⟩, ⟨.int .i64 6, .agg #[.func (.func 25) #[] #[]], 3⟩, ⟨.int .i64 7, .agg #[.func (.func 29) #[] #[.pointer (some ⟨p7, 0, none⟩)]], 4⟩].push (⟨.int .i64 8, .agg #[.func (.func 29) #[] #[.pointer (some ⟨p8, 0, none⟩)]], 5⟩ : MapEntry)) (5 + 1) = w11 := hw.symm
  rw [hw']
  clear hw hw' x10 m10 s10
  go_wp2_with fail
  go_ret
  exact ⟨w.heap.size, p3, p4, p5, p7, q7, p8, q8, rfl, x11.out, ⟨m11.out, p3_11.out.1, p3_11.out.2, p4_11.out.1, p4_11.out.2, p5_11.out.1, p5_11.out.2, p7_11.out.1, p7_11.out.2, q7_11.out.1, q7_11.out.2, p8_11.out.1, p8_11.out.2, q8_11.out.1, q8_11.out.2⟩⟩

end Go.Proofs.Ytemeckdjkjnieaa
