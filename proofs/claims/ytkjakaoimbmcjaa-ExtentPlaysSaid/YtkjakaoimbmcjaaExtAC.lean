/- Layer 12: the document's Give, refused. -/
import Derived.Test.YtkjakaoimbmcjaaExtAB
namespace Go.Proofs.Ytkjakaoimbmcjaa
set_option linter.unusedSimpArgs false
set_option linter.unusedVariables false
open Go.RowKit

set_option maxRecDepth 100000 in
set_option maxHeartbeats 4000000 in
theorem rxgive_a (p q n : Nat) (fr : Int) (P : Nat → Bool) (w : World) (h : Rx w p q n fr P) (at_ N : Int) (h0 : (at_.tmod 16 != 0) = true) : Calls Try.prog 14 #[.pointer (some ⟨p, 0, none⟩), .int .i64 at_, .int .i64 N] w fun e w' => e = .returned (.bool false) ∧ Ext w w' := by
  have c0 := h.c0
  have c1 := h.c1
  have hlp := h.ltp
  have hb0 := h.b0
  have hb1 := h.b1
  have hnb := h.bd
  clear h
  have HFh0 := hid h0
  clear h0
  go_enter Try.func14, Try.ntmps14
  go_upto_region 1 with (fail)
  have h0 := HFh0.out
  have h0b := (t16 _).trans h0
  refine wp_region_grow (by kernel_rfl) (by kernel_rfl) (by first | (simp only [List.append]; rfl) | rfl) ?_
  (repeat (go_big_quiet_step (fail)))
  refine wpQuiet_nil ?_
  intro wq hq
  obtain ⟨d, rfl⟩ := hq
  go_wp2
  go_ret
  exact ⟨rfl, (by repeat (first | (with_reducible exact Ext.refl _) | (with_reducible refine Ext.undrew ?_) | (with_reducible refine Ext.grow ?_ _) | (with_reducible refine Ext.drew ?_) | (with_reducible refine Ext.drewN ?_ _) | (with_reducible refine Ext.alloc ?_ _) | (with_reducible assumption) | ((with_reducible refine Ext.setCell ?_ ?_ _); rotate_left; (first | exact Nat.le_refl _ | ((try dsimp only); (try simp only [World.size_alloc, grow_size, World.size_setCell]); omega)))))⟩
set_option maxRecDepth 100000 in
set_option maxHeartbeats 4000000 in
theorem rxgive_b (p q n : Nat) (fr : Int) (P : Nat → Bool) (w : World) (h : Rx w p q n fr P) (at_ N : Int) (h0 : (at_.tmod 16 != 0) = false) (h1 : (N.tmod 16 != 0) = true) : Calls Try.prog 14 #[.pointer (some ⟨p, 0, none⟩), .int .i64 at_, .int .i64 N] w fun e w' => e = .returned (.bool false) ∧ Ext w w' := by
  have c0 := h.c0
  have c1 := h.c1
  have hlp := h.ltp
  have hb0 := h.b0
  have hb1 := h.b1
  have hnb := h.bd
  clear h
  have HFh0 := hid h0
  clear h0
  have HFh1 := hid h1
  clear h1
  go_enter Try.func14, Try.ntmps14
  go_upto_region 1 with (fail)
  have h0 := HFh0.out
  have h0b := (t16 _).trans h0
  have h1 := HFh1.out
  have h1b := (t16 _).trans h1
  refine wp_region_grow (by kernel_rfl) (by kernel_rfl) (by first | (simp only [List.append]; rfl) | rfl) ?_
  (repeat (go_big_quiet_step (fail)))
  refine wpQuiet_nil ?_
  intro wq hq
  obtain ⟨d, rfl⟩ := hq
  go_wp2
  go_ret
  exact ⟨rfl, (by repeat (first | (with_reducible exact Ext.refl _) | (with_reducible refine Ext.undrew ?_) | (with_reducible refine Ext.grow ?_ _) | (with_reducible refine Ext.drew ?_) | (with_reducible refine Ext.drewN ?_ _) | (with_reducible refine Ext.alloc ?_ _) | (with_reducible assumption) | ((with_reducible refine Ext.setCell ?_ ?_ _); rotate_left; (first | exact Nat.le_refl _ | ((try dsimp only); (try simp only [World.size_alloc, grow_size, World.size_setCell]); omega)))))⟩
set_option maxRecDepth 100000 in
set_option maxHeartbeats 4000000 in
theorem rxgive_c (p q n : Nat) (fr : Int) (P : Nat → Bool) (w : World) (h : Rx w p q n fr P) (at_ N : Int) (h0 : (at_.tmod 16 != 0) = false) (h1 : (N.tmod 16 != 0) = false) (h2 : N < 1) : Calls Try.prog 14 #[.pointer (some ⟨p, 0, none⟩), .int .i64 at_, .int .i64 N] w fun e w' => e = .returned (.bool false) ∧ Ext w w' := by
  have c0 := h.c0
  have c1 := h.c1
  have hlp := h.ltp
  have hb0 := h.b0
  have hb1 := h.b1
  have hnb := h.bd
  clear h
  have HFh0 := hid h0
  clear h0
  have HFh1 := hid h1
  clear h1
  have HFh2 := hid h2
  clear h2
  go_enter Try.func14, Try.ntmps14
  go_upto_region 1 with (fail)
  have h0 := HFh0.out
  have h0b := (t16 _).trans h0
  have h1 := HFh1.out
  have h1b := (t16 _).trans h1
  have h2 := HFh2.out
  refine wp_region_grow (by kernel_rfl) (by kernel_rfl) (by first | (simp only [List.append]; rfl) | rfl) ?_
  (repeat (go_big_quiet_step (fail)))
  refine wpQuiet_nil ?_
  intro wq hq
  obtain ⟨d, rfl⟩ := hq
  go_wp2
  go_ret
  exact ⟨rfl, (by repeat (first | (with_reducible exact Ext.refl _) | (with_reducible refine Ext.undrew ?_) | (with_reducible refine Ext.grow ?_ _) | (with_reducible refine Ext.drew ?_) | (with_reducible refine Ext.drewN ?_ _) | (with_reducible refine Ext.alloc ?_ _) | (with_reducible assumption) | ((with_reducible refine Ext.setCell ?_ ?_ _); rotate_left; (first | exact Nat.le_refl _ | ((try dsimp only); (try simp only [World.size_alloc, grow_size, World.size_setCell]); omega)))))⟩
set_option maxRecDepth 100000 in
set_option maxHeartbeats 4000000 in
theorem rxgive_d (p q n : Nat) (fr : Int) (P : Nat → Bool) (w : World) (h : Rx w p q n fr P) (at_ N : Int) (h0 : (at_.tmod 16 != 0) = false) (h1 : (N.tmod 16 != 0) = false) (h2 : ¬ N < 1) (h3 : at_ < fr) : Calls Try.prog 14 #[.pointer (some ⟨p, 0, none⟩), .int .i64 at_, .int .i64 N] w fun e w' => e = .returned (.bool false) ∧ Ext w w' := by
  have c0 := h.c0
  have c1 := h.c1
  have hlp := h.ltp
  have hb0 := h.b0
  have hb1 := h.b1
  have hnb := h.bd
  clear h
  have HFh0 := hid h0
  clear h0
  have HFh1 := hid h1
  clear h1
  have HFh2 := hid h2
  clear h2
  have HFh3 := hid h3
  clear h3
  go_enter Try.func14, Try.ntmps14
  go_upto_region 1 with (fail)
  have h0 := HFh0.out
  have h0b := (t16 _).trans h0
  have h1 := HFh1.out
  have h1b := (t16 _).trans h1
  have h2 := HFh2.out
  have h3 := HFh3.out
  refine wp_region_grow (by kernel_rfl) (by kernel_rfl) (by first | (simp only [List.append]; rfl) | rfl) ?_
  (repeat (go_big_quiet_step (fail)))
  refine wpQuiet_nil ?_
  intro wq hq
  obtain ⟨d, rfl⟩ := hq
  go_wp2
  go_ret
  exact ⟨rfl, (by repeat (first | (with_reducible exact Ext.refl _) | (with_reducible refine Ext.undrew ?_) | (with_reducible refine Ext.grow ?_ _) | (with_reducible refine Ext.drew ?_) | (with_reducible refine Ext.drewN ?_ _) | (with_reducible refine Ext.alloc ?_ _) | (with_reducible assumption) | ((with_reducible refine Ext.setCell ?_ ?_ _); rotate_left; (first | exact Nat.le_refl _ | ((try dsimp only); (try simp only [World.size_alloc, grow_size, World.size_setCell]); omega)))))⟩
set_option maxRecDepth 100000 in
set_option maxHeartbeats 4000000 in
theorem rxgive_e (p q n : Nat) (fr : Int) (P : Nat → Bool) (w : World) (h : Rx w p q n fr P) (at_ N : Int) (h0 : (at_.tmod 16 != 0) = false) (h1 : (N.tmod 16 != 0) = false) (h2 : ¬ N < 1) (h3 : ¬ at_ < fr) (h4 : fr + 16 * (n : Int) < at_) : Calls Try.prog 14 #[.pointer (some ⟨p, 0, none⟩), .int .i64 at_, .int .i64 N] w fun e w' => e = .returned (.bool false) ∧ Ext w w' := by
  have c0 := h.c0
  have c1 := h.c1
  have hlp := h.ltp
  have hb0 := h.b0
  have hb1 := h.b1
  have hnb := h.bd
  clear h
  have HFh0 := hid h0
  clear h0
  have HFh1 := hid h1
  clear h1
  have HFh2 := hid h2
  clear h2
  have HFh3 := hid h3
  clear h3
  have HFh4 := hid h4
  clear h4
  go_enter Try.func14, Try.ntmps14
  go_upto_region 1 with (fail)
  have h0 := HFh0.out
  have h0b := (t16 _).trans h0
  have h1 := HFh1.out
  have h1b := (t16 _).trans h1
  have h2 := HFh2.out
  have h3 := HFh3.out
  have h4 := HFh4.out
  refine wp_region_grow (by kernel_rfl) (by kernel_rfl) (by first | (simp only [List.append]; rfl) | rfl) ?_
  (repeat (go_big_quiet_step (fail)))
  refine wpQuiet_nil ?_
  intro wq hq
  obtain ⟨d, rfl⟩ := hq
  go_wp2
  go_ret
  exact ⟨rfl, (by repeat (first | (with_reducible exact Ext.refl _) | (with_reducible refine Ext.undrew ?_) | (with_reducible refine Ext.grow ?_ _) | (with_reducible refine Ext.drew ?_) | (with_reducible refine Ext.drewN ?_ _) | (with_reducible refine Ext.alloc ?_ _) | (with_reducible assumption) | ((with_reducible refine Ext.setCell ?_ ?_ _); rotate_left; (first | exact Nat.le_refl _ | ((try dsimp only); (try simp only [World.size_alloc, grow_size, World.size_setCell]); omega)))))⟩
set_option maxRecDepth 100000 in
set_option maxHeartbeats 4000000 in
theorem rxgive_f (p q n : Nat) (fr : Int) (P : Nat → Bool) (w : World) (h : Rx w p q n fr P) (at_ N : Int) (h0 : (at_.tmod 16 != 0) = false) (h1 : (N.tmod 16 != 0) = false) (h2 : ¬ N < 1) (h3 : ¬ at_ < fr) (h4 : ¬ fr + 16 * (n : Int) < at_) (h5 : fr + 16 * (n : Int) - at_ < N) : Calls Try.prog 14 #[.pointer (some ⟨p, 0, none⟩), .int .i64 at_, .int .i64 N] w fun e w' => e = .returned (.bool false) ∧ Ext w w' := by
  have c0 := h.c0
  have c1 := h.c1
  have hlp := h.ltp
  have hb0 := h.b0
  have hb1 := h.b1
  have hnb := h.bd
  clear h
  have HFh0 := hid h0
  clear h0
  have HFh1 := hid h1
  clear h1
  have HFh2 := hid h2
  clear h2
  have HFh3 := hid h3
  clear h3
  have HFh4 := hid h4
  clear h4
  have HFh5 := hid h5
  clear h5
  go_enter Try.func14, Try.ntmps14
  go_upto_region 1 with (fail)
  have h0 := HFh0.out
  have h0b := (t16 _).trans h0
  have h1 := HFh1.out
  have h1b := (t16 _).trans h1
  have h2 := HFh2.out
  have h3 := HFh3.out
  have h4 := HFh4.out
  have h5 := HFh5.out
  refine wp_region_grow (by kernel_rfl) (by kernel_rfl) (by first | (simp only [List.append]; rfl) | rfl) ?_
  (repeat (go_big_quiet_step (fail)))
  refine wpQuiet_nil ?_
  intro wq hq
  obtain ⟨d, rfl⟩ := hq
  go_wp2
  go_ret
  exact ⟨rfl, (by repeat (first | (with_reducible exact Ext.refl _) | (with_reducible refine Ext.undrew ?_) | (with_reducible refine Ext.grow ?_ _) | (with_reducible refine Ext.drew ?_) | (with_reducible refine Ext.drewN ?_ _) | (with_reducible refine Ext.alloc ?_ _) | (with_reducible assumption) | ((with_reducible refine Ext.setCell ?_ ?_ _); rotate_left; (first | exact Nat.le_refl _ | ((try dsimp only); (try simp only [World.size_alloc, grow_size, World.size_setCell]); omega)))))⟩

end Go.Proofs.Ytkjakaoimbmcjaa
