/- Layer 6: made. -/
import Derived.Test.YtlapemeoffpmgaaCloA
namespace Go.Proofs.Ytlapemeoffpmgaa
set_option linter.unusedSimpArgs false
set_option linter.unusedVariables false
open Go.RowKit

/-- What is made of two, in some way. -/
def madeV (c d : Cap) (n : Int) (k : Int) : Cap :=
  if k = 0 then boundsC c n else if k = 1 then permsC c n else if k = 2 then moveC c n else if k = 3 then sealC c d else if k = 4 then unsealC c d else if k = 5 then enterC c else if k = 6 then buildC (clearC c) d else if c.type = 1 then ⟨c.tag, c.base, c.top, c.at_, c.perms, 0⟩ else c
set_option maxRecDepth 100000 in
set_option maxHeartbeats 4000000 in
theorem made0_ (t : Bool) (b tp a p ty : Int) (t' : Bool) (b' tp' a' p' ty' : Int) (n u : Int) (hu : u.tmod 8 = 0) (w : World) : Calls Try.prog 21 #[.agg #[.bool t, .int .i64 b, .int .i64 tp, .int .i64 a, .int .i64 p, .int .i64 ty], .agg #[.bool t', .int .i64 b', .int .i64 tp', .int .i64 a', .int .i64 p', .int .i64 ty'], .int .i64 n, .int .u8 u] w fun e w' => ∃ z : Cap, e = .returned (.agg #[.bool z.tag, .int .i64 z.base, .int .i64 z.top, .int .i64 z.at_, .int .i64 z.perms, .int .i64 z.type]) ∧ z = boundsC ⟨t, b, tp, a, p, ty⟩ n ∧ Ext w w' := by
  have HC : Hid (∀ W, ∃ (z : Cap) (e0 : Int), z = boundsC ⟨t, b, tp, a, p, ty⟩ n ∧ Calls Try.prog 40 #[.agg #[.bool t, .int .i64 b, .int .i64 tp, .int .i64 a, .int .i64 p, .int .i64 ty], .int .i64 n] W fun e w' => e = .returned (.tuple #[.agg #[.bool z.tag, .int .i64 z.base, .int .i64 z.top, .int .i64 z.at_, .int .i64 z.perms, .int .i64 z.type], .int .i64 e0]) ∧ Ext W w') := hid (fun W => ⟨_, _, rfl, bounds_ t b tp a p ty n W⟩)
  go_enter Try.func21, Try.ntmps21
  go_wp2_with fail
  obtain ⟨z, e0, hz, hcall⟩ := HC.out _
  refine hcall.mono ?_; rintro e W1 ⟨rfl, hy⟩
  have HZ : Hid (z = boundsC ⟨t, b, tp, a, p, ty⟩ n) := hid hz
  clear hz hcall
  have r3 : Row W1 (w.heap.size + 3) 0 [.bool false, .int .i64 0, .int .i64 0, .int .i64 0, .int .i64 0, .int .i64 0] := Row.ext (by simpa using Row.new (((w.alloc (.cells #[.bool t, .int .i64 b, .int .i64 tp, .int .i64 a, .int .i64 p, .int .i64 ty] 24)).alloc (.cells #[.bool t', .int .i64 b', .int .i64 tp', .int .i64 a', .int .i64 p', .int .i64 ty'] 24)).alloc (.cells #[.bool false, .int .i64 0, .int .i64 0, .int .i64 0, .int .i64 0, .int .i64 0] 24)) #[.bool false, .int .i64 0, .int .i64 0, .int .i64 0, .int .i64 0, .int .i64 0] 24) hy
  have r2 : Row W1 (w.heap.size + 2) 0 [.bool false, .int .i64 0, .int .i64 0, .int .i64 0, .int .i64 0, .int .i64 0] := Row.ext ((Row.ext (by simpa using Row.new ((w.alloc (.cells #[.bool t, .int .i64 b, .int .i64 tp, .int .i64 a, .int .i64 p, .int .i64 ty] 24)).alloc (.cells #[.bool t', .int .i64 b', .int .i64 tp', .int .i64 a', .int .i64 p', .int .i64 ty'] 24)) #[.bool false, .int .i64 0, .int .i64 0, .int .i64 0, .int .i64 0, .int .i64 0] 24) ((Ext.refl _).alloc (.cells #[.bool false, .int .i64 0, .int .i64 0, .int .i64 0, .int .i64 0, .int .i64 0] 24)))) hy
  obtain ⟨p0, p1, p2, p3, p4, p5, p6⟩ := Row.six (c := ⟨false, 0, 0, 0, 0, 0⟩) r3
  obtain ⟨f1, f2, f3, f4, f5, f6⟩ := Row.frees (c := ⟨false, 0, 0, 0, 0, 0⟩) r3
  obtain ⟨s0, s1, s2, s3, s4, s5, s6⟩ := Row.six (c := ⟨false, 0, 0, 0, 0, 0⟩) r2
  obtain ⟨g1, g2, g3, g4, g5, g6⟩ := Row.frees (c := ⟨false, 0, 0, 0, 0, 0⟩) r2
  clear r2 r3
  have HY : Hid (Ext w W1) := hid (((((Ext.refl w).alloc _).alloc _).alloc _).alloc _ |>.trans hy)
  clear hy
  go_wp2
  have t0' : w.heap.size + 1 + 1 < W1.heap.size := s0
  have t1' : w.heap.size + 1 + 1 + 1 < W1.heap.size := p0
  have t2' : w.heap.size + 1 + 1 ≠ W1.heap.size := by omega
  refine bodyPost_ret (v := .agg #[.bool z.tag, .int .i64 z.base, .int .i64 z.top, .int .i64 z.at_, .int .i64 z.perms, .int .i64 z.type]) (by simp [t0', t1', t2', s1, s2, s3, s4, s5, s6, results, Try.results21, go_sem]) rfl ⟨z, rfl, HZ.out, ?_⟩
  have hy9 := HY.out
  exact (by repeat (first | (with_reducible exact Ext.refl _) | (with_reducible refine Ext.undrew ?_) | (with_reducible refine Ext.grow ?_ _) | (with_reducible refine Ext.drew ?_) | (with_reducible refine Ext.drewN ?_ _) | (with_reducible refine Ext.alloc ?_ _) | (with_reducible assumption) | ((with_reducible refine Ext.setCell ?_ ?_ _); rotate_left; (first | exact Nat.le_refl _ | ((try dsimp only); (try simp only [World.size_alloc, grow_size, World.size_setCell]); omega)))))
set_option maxRecDepth 100000 in
set_option maxHeartbeats 4000000 in
theorem made1_ (t : Bool) (b tp a p ty : Int) (t' : Bool) (b' tp' a' p' ty' : Int) (n u : Int) (hu : u.tmod 8 = 1) (w : World) : Calls Try.prog 21 #[.agg #[.bool t, .int .i64 b, .int .i64 tp, .int .i64 a, .int .i64 p, .int .i64 ty], .agg #[.bool t', .int .i64 b', .int .i64 tp', .int .i64 a', .int .i64 p', .int .i64 ty'], .int .i64 n, .int .u8 u] w fun e w' => ∃ z : Cap, e = .returned (.agg #[.bool z.tag, .int .i64 z.base, .int .i64 z.top, .int .i64 z.at_, .int .i64 z.perms, .int .i64 z.type]) ∧ z = permsC ⟨t, b, tp, a, p, ty⟩ n ∧ Ext w w' := by
  have HC : Hid (∀ W, ∃ (z : Cap) (e0 : Int), z = permsC ⟨t, b, tp, a, p, ty⟩ n ∧ Calls Try.prog 41 #[.agg #[.bool t, .int .i64 b, .int .i64 tp, .int .i64 a, .int .i64 p, .int .i64 ty], .int .i64 n] W fun e w' => e = .returned (.tuple #[.agg #[.bool z.tag, .int .i64 z.base, .int .i64 z.top, .int .i64 z.at_, .int .i64 z.perms, .int .i64 z.type], .int .i64 e0]) ∧ Ext W w') := hid (fun W => ⟨_, _, rfl, perms_ t b tp a p ty n W⟩)
  go_enter Try.func21, Try.ntmps21
  go_wp2_with fail
  obtain ⟨z, e0, hz, hcall⟩ := HC.out _
  refine hcall.mono ?_; rintro e W1 ⟨rfl, hy⟩
  have HZ : Hid (z = permsC ⟨t, b, tp, a, p, ty⟩ n) := hid hz
  clear hz hcall
  have r3 : Row W1 (w.heap.size + 3) 0 [.bool false, .int .i64 0, .int .i64 0, .int .i64 0, .int .i64 0, .int .i64 0] := Row.ext (by simpa using Row.new (((w.alloc (.cells #[.bool t, .int .i64 b, .int .i64 tp, .int .i64 a, .int .i64 p, .int .i64 ty] 24)).alloc (.cells #[.bool t', .int .i64 b', .int .i64 tp', .int .i64 a', .int .i64 p', .int .i64 ty'] 24)).alloc (.cells #[.bool false, .int .i64 0, .int .i64 0, .int .i64 0, .int .i64 0, .int .i64 0] 24)) #[.bool false, .int .i64 0, .int .i64 0, .int .i64 0, .int .i64 0, .int .i64 0] 24) hy
  have r2 : Row W1 (w.heap.size + 2) 0 [.bool false, .int .i64 0, .int .i64 0, .int .i64 0, .int .i64 0, .int .i64 0] := Row.ext ((Row.ext (by simpa using Row.new ((w.alloc (.cells #[.bool t, .int .i64 b, .int .i64 tp, .int .i64 a, .int .i64 p, .int .i64 ty] 24)).alloc (.cells #[.bool t', .int .i64 b', .int .i64 tp', .int .i64 a', .int .i64 p', .int .i64 ty'] 24)) #[.bool false, .int .i64 0, .int .i64 0, .int .i64 0, .int .i64 0, .int .i64 0] 24) ((Ext.refl _).alloc (.cells #[.bool false, .int .i64 0, .int .i64 0, .int .i64 0, .int .i64 0, .int .i64 0] 24)))) hy
  obtain ⟨p0, p1, p2, p3, p4, p5, p6⟩ := Row.six (c := ⟨false, 0, 0, 0, 0, 0⟩) r3
  obtain ⟨f1, f2, f3, f4, f5, f6⟩ := Row.frees (c := ⟨false, 0, 0, 0, 0, 0⟩) r3
  obtain ⟨s0, s1, s2, s3, s4, s5, s6⟩ := Row.six (c := ⟨false, 0, 0, 0, 0, 0⟩) r2
  obtain ⟨g1, g2, g3, g4, g5, g6⟩ := Row.frees (c := ⟨false, 0, 0, 0, 0, 0⟩) r2
  clear r2 r3
  have HY : Hid (Ext w W1) := hid (((((Ext.refl w).alloc _).alloc _).alloc _).alloc _ |>.trans hy)
  clear hy
  go_wp2
  have t0' : w.heap.size + 1 + 1 < W1.heap.size := s0
  have t1' : w.heap.size + 1 + 1 + 1 < W1.heap.size := p0
  have t2' : w.heap.size + 1 + 1 ≠ W1.heap.size := by omega
  refine bodyPost_ret (v := .agg #[.bool z.tag, .int .i64 z.base, .int .i64 z.top, .int .i64 z.at_, .int .i64 z.perms, .int .i64 z.type]) (by simp [t0', t1', t2', s1, s2, s3, s4, s5, s6, results, Try.results21, go_sem]) rfl ⟨z, rfl, HZ.out, ?_⟩
  have hy9 := HY.out
  exact (by repeat (first | (with_reducible exact Ext.refl _) | (with_reducible refine Ext.undrew ?_) | (with_reducible refine Ext.grow ?_ _) | (with_reducible refine Ext.drew ?_) | (with_reducible refine Ext.drewN ?_ _) | (with_reducible refine Ext.alloc ?_ _) | (with_reducible assumption) | ((with_reducible refine Ext.setCell ?_ ?_ _); rotate_left; (first | exact Nat.le_refl _ | ((try dsimp only); (try simp only [World.size_alloc, grow_size, World.size_setCell]); omega)))))
set_option maxRecDepth 100000 in
set_option maxHeartbeats 4000000 in
theorem made2_ (t : Bool) (b tp a p ty : Int) (t' : Bool) (b' tp' a' p' ty' : Int) (n u : Int) (hu : u.tmod 8 = 2) (w : World) : Calls Try.prog 21 #[.agg #[.bool t, .int .i64 b, .int .i64 tp, .int .i64 a, .int .i64 p, .int .i64 ty], .agg #[.bool t', .int .i64 b', .int .i64 tp', .int .i64 a', .int .i64 p', .int .i64 ty'], .int .i64 n, .int .u8 u] w fun e w' => ∃ z : Cap, e = .returned (.agg #[.bool z.tag, .int .i64 z.base, .int .i64 z.top, .int .i64 z.at_, .int .i64 z.perms, .int .i64 z.type]) ∧ z = moveC ⟨t, b, tp, a, p, ty⟩ n ∧ Ext w w' := by
  have HC : Hid (∀ W, ∃ (z : Cap) (e0 : Int), z = moveC ⟨t, b, tp, a, p, ty⟩ n ∧ Calls Try.prog 42 #[.agg #[.bool t, .int .i64 b, .int .i64 tp, .int .i64 a, .int .i64 p, .int .i64 ty], .int .i64 n] W fun e w' => e = .returned (.tuple #[.agg #[.bool z.tag, .int .i64 z.base, .int .i64 z.top, .int .i64 z.at_, .int .i64 z.perms, .int .i64 z.type], .int .i64 e0]) ∧ Ext W w') := hid (fun W => ⟨_, _, rfl, move_ t b tp a p ty n W⟩)
  go_enter Try.func21, Try.ntmps21
  go_wp2_with fail
  obtain ⟨z, e0, hz, hcall⟩ := HC.out _
  refine hcall.mono ?_; rintro e W1 ⟨rfl, hy⟩
  have HZ : Hid (z = moveC ⟨t, b, tp, a, p, ty⟩ n) := hid hz
  clear hz hcall
  have r3 : Row W1 (w.heap.size + 3) 0 [.bool false, .int .i64 0, .int .i64 0, .int .i64 0, .int .i64 0, .int .i64 0] := Row.ext (by simpa using Row.new (((w.alloc (.cells #[.bool t, .int .i64 b, .int .i64 tp, .int .i64 a, .int .i64 p, .int .i64 ty] 24)).alloc (.cells #[.bool t', .int .i64 b', .int .i64 tp', .int .i64 a', .int .i64 p', .int .i64 ty'] 24)).alloc (.cells #[.bool false, .int .i64 0, .int .i64 0, .int .i64 0, .int .i64 0, .int .i64 0] 24)) #[.bool false, .int .i64 0, .int .i64 0, .int .i64 0, .int .i64 0, .int .i64 0] 24) hy
  have r2 : Row W1 (w.heap.size + 2) 0 [.bool false, .int .i64 0, .int .i64 0, .int .i64 0, .int .i64 0, .int .i64 0] := Row.ext ((Row.ext (by simpa using Row.new ((w.alloc (.cells #[.bool t, .int .i64 b, .int .i64 tp, .int .i64 a, .int .i64 p, .int .i64 ty] 24)).alloc (.cells #[.bool t', .int .i64 b', .int .i64 tp', .int .i64 a', .int .i64 p', .int .i64 ty'] 24)) #[.bool false, .int .i64 0, .int .i64 0, .int .i64 0, .int .i64 0, .int .i64 0] 24) ((Ext.refl _).alloc (.cells #[.bool false, .int .i64 0, .int .i64 0, .int .i64 0, .int .i64 0, .int .i64 0] 24)))) hy
  obtain ⟨p0, p1, p2, p3, p4, p5, p6⟩ := Row.six (c := ⟨false, 0, 0, 0, 0, 0⟩) r3
  obtain ⟨f1, f2, f3, f4, f5, f6⟩ := Row.frees (c := ⟨false, 0, 0, 0, 0, 0⟩) r3
  obtain ⟨s0, s1, s2, s3, s4, s5, s6⟩ := Row.six (c := ⟨false, 0, 0, 0, 0, 0⟩) r2
  obtain ⟨g1, g2, g3, g4, g5, g6⟩ := Row.frees (c := ⟨false, 0, 0, 0, 0, 0⟩) r2
  clear r2 r3
  have HY : Hid (Ext w W1) := hid (((((Ext.refl w).alloc _).alloc _).alloc _).alloc _ |>.trans hy)
  clear hy
  go_wp2
  have t0' : w.heap.size + 1 + 1 < W1.heap.size := s0
  have t1' : w.heap.size + 1 + 1 + 1 < W1.heap.size := p0
  have t2' : w.heap.size + 1 + 1 ≠ W1.heap.size := by omega
  refine bodyPost_ret (v := .agg #[.bool z.tag, .int .i64 z.base, .int .i64 z.top, .int .i64 z.at_, .int .i64 z.perms, .int .i64 z.type]) (by simp [t0', t1', t2', s1, s2, s3, s4, s5, s6, results, Try.results21, go_sem]) rfl ⟨z, rfl, HZ.out, ?_⟩
  have hy9 := HY.out
  exact (by repeat (first | (with_reducible exact Ext.refl _) | (with_reducible refine Ext.undrew ?_) | (with_reducible refine Ext.grow ?_ _) | (with_reducible refine Ext.drew ?_) | (with_reducible refine Ext.drewN ?_ _) | (with_reducible refine Ext.alloc ?_ _) | (with_reducible assumption) | ((with_reducible refine Ext.setCell ?_ ?_ _); rotate_left; (first | exact Nat.le_refl _ | ((try dsimp only); (try simp only [World.size_alloc, grow_size, World.size_setCell]); omega)))))
set_option maxRecDepth 100000 in
set_option maxHeartbeats 4000000 in
theorem made3_ (t : Bool) (b tp a p ty : Int) (t' : Bool) (b' tp' a' p' ty' : Int) (n u : Int) (hu : u.tmod 8 = 3) (w : World) : Calls Try.prog 21 #[.agg #[.bool t, .int .i64 b, .int .i64 tp, .int .i64 a, .int .i64 p, .int .i64 ty], .agg #[.bool t', .int .i64 b', .int .i64 tp', .int .i64 a', .int .i64 p', .int .i64 ty'], .int .i64 n, .int .u8 u] w fun e w' => ∃ z : Cap, e = .returned (.agg #[.bool z.tag, .int .i64 z.base, .int .i64 z.top, .int .i64 z.at_, .int .i64 z.perms, .int .i64 z.type]) ∧ z = sealC ⟨t, b, tp, a, p, ty⟩ ⟨t', b', tp', a', p', ty'⟩ ∧ Ext w w' := by
  have HC : Hid (∀ W, ∃ (z : Cap) (e0 : Int), z = sealC ⟨t, b, tp, a, p, ty⟩ ⟨t', b', tp', a', p', ty'⟩ ∧ Calls Try.prog 43 #[.agg #[.bool t, .int .i64 b, .int .i64 tp, .int .i64 a, .int .i64 p, .int .i64 ty], .agg #[.bool t', .int .i64 b', .int .i64 tp', .int .i64 a', .int .i64 p', .int .i64 ty']] W fun e w' => e = .returned (.tuple #[.agg #[.bool z.tag, .int .i64 z.base, .int .i64 z.top, .int .i64 z.at_, .int .i64 z.perms, .int .i64 z.type], .int .i64 e0]) ∧ Ext W w') := hid (fun W => ⟨_, _, rfl, seal_ t b tp a p ty t' b' tp' a' p' ty' W⟩)
  go_enter Try.func21, Try.ntmps21
  go_wp2_with fail
  obtain ⟨z, e0, hz, hcall⟩ := HC.out _
  refine hcall.mono ?_; rintro e W1 ⟨rfl, hy⟩
  have HZ : Hid (z = sealC ⟨t, b, tp, a, p, ty⟩ ⟨t', b', tp', a', p', ty'⟩) := hid hz
  clear hz hcall
  have r3 : Row W1 (w.heap.size + 3) 0 [.bool false, .int .i64 0, .int .i64 0, .int .i64 0, .int .i64 0, .int .i64 0] := Row.ext (by simpa using Row.new (((w.alloc (.cells #[.bool t, .int .i64 b, .int .i64 tp, .int .i64 a, .int .i64 p, .int .i64 ty] 24)).alloc (.cells #[.bool t', .int .i64 b', .int .i64 tp', .int .i64 a', .int .i64 p', .int .i64 ty'] 24)).alloc (.cells #[.bool false, .int .i64 0, .int .i64 0, .int .i64 0, .int .i64 0, .int .i64 0] 24)) #[.bool false, .int .i64 0, .int .i64 0, .int .i64 0, .int .i64 0, .int .i64 0] 24) hy
  have r2 : Row W1 (w.heap.size + 2) 0 [.bool false, .int .i64 0, .int .i64 0, .int .i64 0, .int .i64 0, .int .i64 0] := Row.ext ((Row.ext (by simpa using Row.new ((w.alloc (.cells #[.bool t, .int .i64 b, .int .i64 tp, .int .i64 a, .int .i64 p, .int .i64 ty] 24)).alloc (.cells #[.bool t', .int .i64 b', .int .i64 tp', .int .i64 a', .int .i64 p', .int .i64 ty'] 24)) #[.bool false, .int .i64 0, .int .i64 0, .int .i64 0, .int .i64 0, .int .i64 0] 24) ((Ext.refl _).alloc (.cells #[.bool false, .int .i64 0, .int .i64 0, .int .i64 0, .int .i64 0, .int .i64 0] 24)))) hy
  obtain ⟨p0, p1, p2, p3, p4, p5, p6⟩ := Row.six (c := ⟨false, 0, 0, 0, 0, 0⟩) r3
  obtain ⟨f1, f2, f3, f4, f5, f6⟩ := Row.frees (c := ⟨false, 0, 0, 0, 0, 0⟩) r3
  obtain ⟨s0, s1, s2, s3, s4, s5, s6⟩ := Row.six (c := ⟨false, 0, 0, 0, 0, 0⟩) r2
  obtain ⟨g1, g2, g3, g4, g5, g6⟩ := Row.frees (c := ⟨false, 0, 0, 0, 0, 0⟩) r2
  clear r2 r3
  have HY : Hid (Ext w W1) := hid (((((Ext.refl w).alloc _).alloc _).alloc _).alloc _ |>.trans hy)
  clear hy
  go_wp2
  have t0' : w.heap.size + 1 + 1 < W1.heap.size := s0
  have t1' : w.heap.size + 1 + 1 + 1 < W1.heap.size := p0
  have t2' : w.heap.size + 1 + 1 ≠ W1.heap.size := by omega
  refine bodyPost_ret (v := .agg #[.bool z.tag, .int .i64 z.base, .int .i64 z.top, .int .i64 z.at_, .int .i64 z.perms, .int .i64 z.type]) (by simp [t0', t1', t2', s1, s2, s3, s4, s5, s6, results, Try.results21, go_sem]) rfl ⟨z, rfl, HZ.out, ?_⟩
  have hy9 := HY.out
  exact (by repeat (first | (with_reducible exact Ext.refl _) | (with_reducible refine Ext.undrew ?_) | (with_reducible refine Ext.grow ?_ _) | (with_reducible refine Ext.drew ?_) | (with_reducible refine Ext.drewN ?_ _) | (with_reducible refine Ext.alloc ?_ _) | (with_reducible assumption) | ((with_reducible refine Ext.setCell ?_ ?_ _); rotate_left; (first | exact Nat.le_refl _ | ((try dsimp only); (try simp only [World.size_alloc, grow_size, World.size_setCell]); omega)))))
set_option maxRecDepth 100000 in
set_option maxHeartbeats 4000000 in
theorem made4_ (t : Bool) (b tp a p ty : Int) (t' : Bool) (b' tp' a' p' ty' : Int) (n u : Int) (hu : u.tmod 8 = 4) (w : World) : Calls Try.prog 21 #[.agg #[.bool t, .int .i64 b, .int .i64 tp, .int .i64 a, .int .i64 p, .int .i64 ty], .agg #[.bool t', .int .i64 b', .int .i64 tp', .int .i64 a', .int .i64 p', .int .i64 ty'], .int .i64 n, .int .u8 u] w fun e w' => ∃ z : Cap, e = .returned (.agg #[.bool z.tag, .int .i64 z.base, .int .i64 z.top, .int .i64 z.at_, .int .i64 z.perms, .int .i64 z.type]) ∧ z = unsealC ⟨t, b, tp, a, p, ty⟩ ⟨t', b', tp', a', p', ty'⟩ ∧ Ext w w' := by
  have HC : Hid (∀ W, ∃ (z : Cap) (e0 : Int), z = unsealC ⟨t, b, tp, a, p, ty⟩ ⟨t', b', tp', a', p', ty'⟩ ∧ Calls Try.prog 44 #[.agg #[.bool t, .int .i64 b, .int .i64 tp, .int .i64 a, .int .i64 p, .int .i64 ty], .agg #[.bool t', .int .i64 b', .int .i64 tp', .int .i64 a', .int .i64 p', .int .i64 ty']] W fun e w' => e = .returned (.tuple #[.agg #[.bool z.tag, .int .i64 z.base, .int .i64 z.top, .int .i64 z.at_, .int .i64 z.perms, .int .i64 z.type], .int .i64 e0]) ∧ Ext W w') := hid (fun W => ⟨_, _, rfl, unseal_ t b tp a p ty t' b' tp' a' p' ty' W⟩)
  go_enter Try.func21, Try.ntmps21
  go_wp2_with fail
  obtain ⟨z, e0, hz, hcall⟩ := HC.out _
  refine hcall.mono ?_; rintro e W1 ⟨rfl, hy⟩
  have HZ : Hid (z = unsealC ⟨t, b, tp, a, p, ty⟩ ⟨t', b', tp', a', p', ty'⟩) := hid hz
  clear hz hcall
  have r3 : Row W1 (w.heap.size + 3) 0 [.bool false, .int .i64 0, .int .i64 0, .int .i64 0, .int .i64 0, .int .i64 0] := Row.ext (by simpa using Row.new (((w.alloc (.cells #[.bool t, .int .i64 b, .int .i64 tp, .int .i64 a, .int .i64 p, .int .i64 ty] 24)).alloc (.cells #[.bool t', .int .i64 b', .int .i64 tp', .int .i64 a', .int .i64 p', .int .i64 ty'] 24)).alloc (.cells #[.bool false, .int .i64 0, .int .i64 0, .int .i64 0, .int .i64 0, .int .i64 0] 24)) #[.bool false, .int .i64 0, .int .i64 0, .int .i64 0, .int .i64 0, .int .i64 0] 24) hy
  have r2 : Row W1 (w.heap.size + 2) 0 [.bool false, .int .i64 0, .int .i64 0, .int .i64 0, .int .i64 0, .int .i64 0] := Row.ext ((Row.ext (by simpa using Row.new ((w.alloc (.cells #[.bool t, .int .i64 b, .int .i64 tp, .int .i64 a, .int .i64 p, .int .i64 ty] 24)).alloc (.cells #[.bool t', .int .i64 b', .int .i64 tp', .int .i64 a', .int .i64 p', .int .i64 ty'] 24)) #[.bool false, .int .i64 0, .int .i64 0, .int .i64 0, .int .i64 0, .int .i64 0] 24) ((Ext.refl _).alloc (.cells #[.bool false, .int .i64 0, .int .i64 0, .int .i64 0, .int .i64 0, .int .i64 0] 24)))) hy
  obtain ⟨p0, p1, p2, p3, p4, p5, p6⟩ := Row.six (c := ⟨false, 0, 0, 0, 0, 0⟩) r3
  obtain ⟨f1, f2, f3, f4, f5, f6⟩ := Row.frees (c := ⟨false, 0, 0, 0, 0, 0⟩) r3
  obtain ⟨s0, s1, s2, s3, s4, s5, s6⟩ := Row.six (c := ⟨false, 0, 0, 0, 0, 0⟩) r2
  obtain ⟨g1, g2, g3, g4, g5, g6⟩ := Row.frees (c := ⟨false, 0, 0, 0, 0, 0⟩) r2
  clear r2 r3
  have HY : Hid (Ext w W1) := hid (((((Ext.refl w).alloc _).alloc _).alloc _).alloc _ |>.trans hy)
  clear hy
  go_wp2
  have t0' : w.heap.size + 1 + 1 < W1.heap.size := s0
  have t1' : w.heap.size + 1 + 1 + 1 < W1.heap.size := p0
  have t2' : w.heap.size + 1 + 1 ≠ W1.heap.size := by omega
  refine bodyPost_ret (v := .agg #[.bool z.tag, .int .i64 z.base, .int .i64 z.top, .int .i64 z.at_, .int .i64 z.perms, .int .i64 z.type]) (by simp [t0', t1', t2', s1, s2, s3, s4, s5, s6, results, Try.results21, go_sem]) rfl ⟨z, rfl, HZ.out, ?_⟩
  have hy9 := HY.out
  exact (by repeat (first | (with_reducible exact Ext.refl _) | (with_reducible refine Ext.undrew ?_) | (with_reducible refine Ext.grow ?_ _) | (with_reducible refine Ext.drew ?_) | (with_reducible refine Ext.drewN ?_ _) | (with_reducible refine Ext.alloc ?_ _) | (with_reducible assumption) | ((with_reducible refine Ext.setCell ?_ ?_ _); rotate_left; (first | exact Nat.le_refl _ | ((try dsimp only); (try simp only [World.size_alloc, grow_size, World.size_setCell]); omega)))))
set_option maxRecDepth 100000 in
set_option maxHeartbeats 4000000 in
theorem made5_ (t : Bool) (b tp a p ty : Int) (t' : Bool) (b' tp' a' p' ty' : Int) (n u : Int) (hu : u.tmod 8 = 5) (w : World) : Calls Try.prog 21 #[.agg #[.bool t, .int .i64 b, .int .i64 tp, .int .i64 a, .int .i64 p, .int .i64 ty], .agg #[.bool t', .int .i64 b', .int .i64 tp', .int .i64 a', .int .i64 p', .int .i64 ty'], .int .i64 n, .int .u8 u] w fun e w' => ∃ z : Cap, e = .returned (.agg #[.bool z.tag, .int .i64 z.base, .int .i64 z.top, .int .i64 z.at_, .int .i64 z.perms, .int .i64 z.type]) ∧ z = enterC ⟨t, b, tp, a, p, ty⟩ ∧ Ext w w' := by
  have HC : Hid (∀ W, ∃ (z : Cap) (e0 : Int), z = enterC ⟨t, b, tp, a, p, ty⟩ ∧ Calls Try.prog 45 #[.agg #[.bool t, .int .i64 b, .int .i64 tp, .int .i64 a, .int .i64 p, .int .i64 ty]] W fun e w' => e = .returned (.tuple #[.agg #[.bool z.tag, .int .i64 z.base, .int .i64 z.top, .int .i64 z.at_, .int .i64 z.perms, .int .i64 z.type], .int .i64 e0]) ∧ Ext W w') := hid (fun W => ⟨_, _, rfl, enter_ t b tp a p ty W⟩)
  go_enter Try.func21, Try.ntmps21
  go_wp2_with fail
  obtain ⟨z, e0, hz, hcall⟩ := HC.out _
  refine hcall.mono ?_; rintro e W1 ⟨rfl, hy⟩
  have HZ : Hid (z = enterC ⟨t, b, tp, a, p, ty⟩) := hid hz
  clear hz hcall
  have r3 : Row W1 (w.heap.size + 3) 0 [.bool false, .int .i64 0, .int .i64 0, .int .i64 0, .int .i64 0, .int .i64 0] := Row.ext (by simpa using Row.new (((w.alloc (.cells #[.bool t, .int .i64 b, .int .i64 tp, .int .i64 a, .int .i64 p, .int .i64 ty] 24)).alloc (.cells #[.bool t', .int .i64 b', .int .i64 tp', .int .i64 a', .int .i64 p', .int .i64 ty'] 24)).alloc (.cells #[.bool false, .int .i64 0, .int .i64 0, .int .i64 0, .int .i64 0, .int .i64 0] 24)) #[.bool false, .int .i64 0, .int .i64 0, .int .i64 0, .int .i64 0, .int .i64 0] 24) hy
  have r2 : Row W1 (w.heap.size + 2) 0 [.bool false, .int .i64 0, .int .i64 0, .int .i64 0, .int .i64 0, .int .i64 0] := Row.ext ((Row.ext (by simpa using Row.new ((w.alloc (.cells #[.bool t, .int .i64 b, .int .i64 tp, .int .i64 a, .int .i64 p, .int .i64 ty] 24)).alloc (.cells #[.bool t', .int .i64 b', .int .i64 tp', .int .i64 a', .int .i64 p', .int .i64 ty'] 24)) #[.bool false, .int .i64 0, .int .i64 0, .int .i64 0, .int .i64 0, .int .i64 0] 24) ((Ext.refl _).alloc (.cells #[.bool false, .int .i64 0, .int .i64 0, .int .i64 0, .int .i64 0, .int .i64 0] 24)))) hy
  obtain ⟨p0, p1, p2, p3, p4, p5, p6⟩ := Row.six (c := ⟨false, 0, 0, 0, 0, 0⟩) r3
  obtain ⟨f1, f2, f3, f4, f5, f6⟩ := Row.frees (c := ⟨false, 0, 0, 0, 0, 0⟩) r3
  obtain ⟨s0, s1, s2, s3, s4, s5, s6⟩ := Row.six (c := ⟨false, 0, 0, 0, 0, 0⟩) r2
  obtain ⟨g1, g2, g3, g4, g5, g6⟩ := Row.frees (c := ⟨false, 0, 0, 0, 0, 0⟩) r2
  clear r2 r3
  have HY : Hid (Ext w W1) := hid (((((Ext.refl w).alloc _).alloc _).alloc _).alloc _ |>.trans hy)
  clear hy
  go_wp2
  have t0' : w.heap.size + 1 + 1 < W1.heap.size := s0
  have t1' : w.heap.size + 1 + 1 + 1 < W1.heap.size := p0
  have t2' : w.heap.size + 1 + 1 ≠ W1.heap.size := by omega
  refine bodyPost_ret (v := .agg #[.bool z.tag, .int .i64 z.base, .int .i64 z.top, .int .i64 z.at_, .int .i64 z.perms, .int .i64 z.type]) (by simp [t0', t1', t2', s1, s2, s3, s4, s5, s6, results, Try.results21, go_sem]) rfl ⟨z, rfl, HZ.out, ?_⟩
  have hy9 := HY.out
  exact (by repeat (first | (with_reducible exact Ext.refl _) | (with_reducible refine Ext.undrew ?_) | (with_reducible refine Ext.grow ?_ _) | (with_reducible refine Ext.drew ?_) | (with_reducible refine Ext.drewN ?_ _) | (with_reducible refine Ext.alloc ?_ _) | (with_reducible assumption) | ((with_reducible refine Ext.setCell ?_ ?_ _); rotate_left; (first | exact Nat.le_refl _ | ((try dsimp only); (try simp only [World.size_alloc, grow_size, World.size_setCell]); omega)))))
set_option maxRecDepth 100000 in
set_option maxHeartbeats 4000000 in
theorem made7a_ (t : Bool) (b tp a p : Int) (t' : Bool) (b' tp' a' p' ty' : Int) (n u : Int) (hu : u.tmod 8 = 7) (w : World) : Calls Try.prog 21 #[.agg #[.bool t, .int .i64 b, .int .i64 tp, .int .i64 a, .int .i64 p, .int .i64 1], .agg #[.bool t', .int .i64 b', .int .i64 tp', .int .i64 a', .int .i64 p', .int .i64 ty'], .int .i64 n, .int .u8 u] w fun e w' => e = .returned (.agg #[.bool t, .int .i64 b, .int .i64 tp, .int .i64 a, .int .i64 p, .int .i64 0]) ∧ Ext w w' := by
  go_enter Try.func21, Try.ntmps21
  go_wp2
  refine bodyPost_ret (v := .agg #[.bool t, .int .i64 b, .int .i64 tp, .int .i64 a, .int .i64 p, .int .i64 0]) (by simp [results, Try.results21, go_sem]) rfl ⟨rfl, ?_⟩
  exact (by repeat (first | (with_reducible exact Ext.refl _) | (with_reducible refine Ext.undrew ?_) | (with_reducible refine Ext.grow ?_ _) | (with_reducible refine Ext.drew ?_) | (with_reducible refine Ext.drewN ?_ _) | (with_reducible refine Ext.alloc ?_ _) | (with_reducible assumption) | ((with_reducible refine Ext.setCell ?_ ?_ _); rotate_left; (first | exact Nat.le_refl _ | ((try dsimp only); (try simp only [World.size_alloc, grow_size, World.size_setCell]); omega)))))
set_option maxRecDepth 100000 in
set_option maxHeartbeats 4000000 in
theorem made7b_ (t : Bool) (b tp a p ty : Int) (t' : Bool) (b' tp' a' p' ty' : Int) (n u : Int) (hu : u.tmod 8 = 7) (ht : ¬ ty = 1) (w : World) : Calls Try.prog 21 #[.agg #[.bool t, .int .i64 b, .int .i64 tp, .int .i64 a, .int .i64 p, .int .i64 ty], .agg #[.bool t', .int .i64 b', .int .i64 tp', .int .i64 a', .int .i64 p', .int .i64 ty'], .int .i64 n, .int .u8 u] w fun e w' => e = .returned (.agg #[.bool t, .int .i64 b, .int .i64 tp, .int .i64 a, .int .i64 p, .int .i64 ty]) ∧ Ext w w' := by
  go_enter Try.func21, Try.ntmps21
  go_wp2
  refine bodyPost_ret (v := .agg #[.bool t, .int .i64 b, .int .i64 tp, .int .i64 a, .int .i64 p, .int .i64 ty]) (by simp [results, Try.results21, go_sem]) rfl ⟨rfl, ?_⟩
  exact (by repeat (first | (with_reducible exact Ext.refl _) | (with_reducible refine Ext.undrew ?_) | (with_reducible refine Ext.grow ?_ _) | (with_reducible refine Ext.drew ?_) | (with_reducible refine Ext.drewN ?_ _) | (with_reducible refine Ext.alloc ?_ _) | (with_reducible assumption) | ((with_reducible refine Ext.setCell ?_ ?_ _); rotate_left; (first | exact Nat.le_refl _ | ((try dsimp only); (try simp only [World.size_alloc, grow_size, World.size_setCell]); omega)))))
set_option maxRecDepth 100000 in
set_option maxHeartbeats 4000000 in
theorem made6_ (t : Bool) (b tp a p ty : Int) (t' : Bool) (b' tp' a' p' ty' : Int) (n u : Int) (hu : u.tmod 8 = 6) (w : World) : Calls Try.prog 21 #[.agg #[.bool t, .int .i64 b, .int .i64 tp, .int .i64 a, .int .i64 p, .int .i64 ty], .agg #[.bool t', .int .i64 b', .int .i64 tp', .int .i64 a', .int .i64 p', .int .i64 ty'], .int .i64 n, .int .u8 u] w fun e w' => ∃ z : Cap, e = .returned (.agg #[.bool z.tag, .int .i64 z.base, .int .i64 z.top, .int .i64 z.at_, .int .i64 z.perms, .int .i64 z.type]) ∧ z = buildC (clearC ⟨t, b, tp, a, p, ty⟩) ⟨t', b', tp', a', p', ty'⟩ ∧ Ext w w' := by
  have HCL : Hid (∀ W, Calls Try.prog 47 #[.agg #[.bool t, .int .i64 b, .int .i64 tp, .int .i64 a, .int .i64 p, .int .i64 ty]] W fun e w' => e = .returned (.agg #[.bool false, .int .i64 b, .int .i64 tp, .int .i64 a, .int .i64 p, .int .i64 ty]) ∧ Ext W w') := hid (fun W => clear_ t b tp a p ty W)
  obtain ⟨z, e0, hz, HC⟩ : ∃ (z : Cap) (e0 : Int), z = buildC (clearC ⟨t, b, tp, a, p, ty⟩) ⟨t', b', tp', a', p', ty'⟩ ∧ Hid (∀ W, Calls Try.prog 46 #[.agg #[.bool false, .int .i64 b, .int .i64 tp, .int .i64 a, .int .i64 p, .int .i64 ty], .agg #[.bool t', .int .i64 b', .int .i64 tp', .int .i64 a', .int .i64 p', .int .i64 ty']] W fun e w' => e = .returned (.tuple #[.agg #[.bool z.tag, .int .i64 z.base, .int .i64 z.top, .int .i64 z.at_, .int .i64 z.perms, .int .i64 z.type], .int .i64 e0]) ∧ Ext W w') := ⟨_, _, rfl, hid (fun W => build_ false b tp a p ty t' b' tp' a' p' ty' W)⟩
  have HZ := hid hz
  clear hz
  go_enter Try.func21, Try.ntmps21
  go_upto_region 25 with fail
  refine wp_region_step (.rd 0 (.rd 2 (.br 1 (.br 3 (.rd 4 (.rd 5 (.rd 6 (.ac 7 (.ac 8 (.rd 9 .done)))))) 7 (.ac 3 (.rd 4 (.rd 5 (.rd 6 (.ac 8 (.rd 9 .done))))))) 7 (.ac 1 (.ac 3 (.rd 4 (.rd 5 (.rd 6 (.ac 8 (.rd 9 .done)))))))))) (by kernel_rfl) (by kernel_rfl) (fun _ _ d _ _ h => by cases d <;> exact h) (by simp only [Ord.map, nthOp, List.append]; rfl) ?_
  intro d0
  repeat' (first | (refine step_read (by rfl) (fun K hK => ?_); go_big_quiet_op; refine hK _ ?_; clear hK K) | (refine step_act (by rfl) (fun K hK => ?_); go_wp2_with (first | (go_at_call 47; refine (HCL.out _).mono ?_; rintro e w1 ⟨rfl, hy⟩; obtain ⟨dd, rfl⟩ := hy.grown; clear hy) | (go_at_call 46; refine (HC.out _).mono ?_; rintro e w1 ⟨rfl, hy⟩; obtain ⟨dd, rfl⟩ := hy.grown; clear hy)); refine ⟨_, Ext.refl _, (by repeat (first | (with_reducible exact Ext.refl _) | (with_reducible refine Ext.undrew ?_) | (with_reducible refine Ext.grow ?_ _) | (with_reducible refine Ext.drew ?_) | (with_reducible refine Ext.drewN ?_ _) | (with_reducible refine Ext.alloc ?_ _) | (with_reducible assumption) | ((with_reducible refine Ext.setCell ?_ ?_ _); rotate_left; (first | exact Nat.le_refl _ | ((try dsimp only); (try simp only [World.size_alloc, grow_size, World.size_setCell]); omega))))), ?_⟩) | refine step_br ?_ ?_)
  all_goals refine step_nil ?_
  all_goals go_wp2
  all_goals refine bodyPost_ret (v := .agg #[.bool z.tag, .int .i64 z.base, .int .i64 z.top, .int .i64 z.at_, .int .i64 z.perms, .int .i64 z.type]) (by simp [results, Try.results21, go_sem]) rfl ⟨z, rfl, HZ.out, ?_⟩
  all_goals exact (by repeat (first | (with_reducible exact Ext.refl _) | (with_reducible refine Ext.undrew ?_) | (with_reducible refine Ext.grow ?_ _) | (with_reducible refine Ext.drew ?_) | (with_reducible refine Ext.drewN ?_ _) | (with_reducible refine Ext.alloc ?_ _) | (with_reducible assumption) | ((with_reducible refine Ext.setCell ?_ ?_ _); rotate_left; (first | exact Nat.le_refl _ | ((try dsimp only); (try simp only [World.size_alloc, grow_size, World.size_setCell]); omega)))))

end Go.Proofs.Ytlapemeoffpmgaa
