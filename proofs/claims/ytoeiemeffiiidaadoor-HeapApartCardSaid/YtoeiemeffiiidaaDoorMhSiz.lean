/- MhSiz: SizA SizB SizC SizD -/
import Derived.Test.YtoeiemeffiiidaaDoorMhEpo
namespace Go.Proofs.YtoeiemeffiiidaaDoor
set_option maxRecDepth 100000
set_option linter.unusedSimpArgs false
set_option linter.unusedVariables false
open Go.RowKit


/-- The table, as the program lays it. -/
structure Tab (w : World) : Prop where
  c0 : w.cell? ⟨0, 0, none⟩ = some (.int .i64 16)
  c1 : w.cell? ⟨0, 1, none⟩ = some (.int .i64 32)
  c2 : w.cell? ⟨0, 2, none⟩ = some (.int .i64 48)
  c3 : w.cell? ⟨0, 3, none⟩ = some (.int .i64 64)
  c4 : w.cell? ⟨0, 4, none⟩ = some (.int .i64 80)
  c5 : w.cell? ⟨0, 5, none⟩ = some (.int .i64 96)
  c6 : w.cell? ⟨0, 6, none⟩ = some (.int .i64 112)
  c7 : w.cell? ⟨0, 7, none⟩ = some (.int .i64 128)
  c8 : w.cell? ⟨0, 8, none⟩ = some (.int .i64 192)
  c9 : w.cell? ⟨0, 9, none⟩ = some (.int .i64 256)
  c10 : w.cell? ⟨0, 10, none⟩ = some (.int .i64 384)
  c11 : w.cell? ⟨0, 11, none⟩ = some (.int .i64 512)
  c12 : w.cell? ⟨0, 12, none⟩ = some (.int .i64 768)
  c13 : w.cell? ⟨0, 13, none⟩ = some (.int .i64 1024)
  b : 0 < w.heap.size
theorem Tab.ext {w w' : World} (h : Tab w) (x : Ext w w') : Tab w' := by
  refine ⟨?_, ?_, ?_, ?_, ?_, ?_, ?_, ?_, ?_, ?_, ?_, ?_, ?_, ?_, Nat.lt_of_lt_of_le h.b x.size⟩
  · rw [x.cells 0 _ h.b]; exact h.c0
  · rw [x.cells 0 _ h.b]; exact h.c1
  · rw [x.cells 0 _ h.b]; exact h.c2
  · rw [x.cells 0 _ h.b]; exact h.c3
  · rw [x.cells 0 _ h.b]; exact h.c4
  · rw [x.cells 0 _ h.b]; exact h.c5
  · rw [x.cells 0 _ h.b]; exact h.c6
  · rw [x.cells 0 _ h.b]; exact h.c7
  · rw [x.cells 0 _ h.b]; exact h.c8
  · rw [x.cells 0 _ h.b]; exact h.c9
  · rw [x.cells 0 _ h.b]; exact h.c10
  · rw [x.cells 0 _ h.b]; exact h.c11
  · rw [x.cells 0 _ h.b]; exact h.c12
  · rw [x.cells 0 _ h.b]; exact h.c13

def classT (n : Int) : Int := if n < 0 then -1 else if 65536 < n then -1 else if n ≤ 16 then 0 else if n ≤ 32 then 1 else if n ≤ 48 then 2 else if n ≤ 64 then 3 else if n ≤ 80 then 4 else if n ≤ 96 then 5 else if n ≤ 112 then 6 else if n ≤ 128 then 7 else if n ≤ 192 then 8 else if n ≤ 256 then 9 else if n ≤ 384 then 10 else if n ≤ 512 then 11 else if n ≤ 768 then 12 else if n ≤ 1024 then 13 else 14
def roundT (n : Int) : Int := if n < 0 then 0 else if 65536 < n then 0 else if n ≤ 16 then 16 else if n ≤ 32 then 32 else if n ≤ 48 then 48 else if n ≤ 64 then 64 else if n ≤ 80 then 80 else if n ≤ 96 then 96 else if n ≤ 112 then 112 else if n ≤ 128 then 128 else if n ≤ 192 then 192 else if n ≤ 256 then 256 else if n ≤ 384 then 384 else if n ≤ 512 then 512 else if n ≤ 768 then 768 else if n ≤ 1024 then 1024 else (n + 255) / 256 * 256
def roundB (n : Int) : Bool := decide (0 ≤ n ∧ n ≤ 65536)
set_option maxRecDepth 100000 in
set_option maxHeartbeats 16000000 in
theorem class_ (n : Int) (w : World) (h : Tab w) :
    Calls Tryd.prog 63 #[.int .i64 n] w fun e w' => e = .returned (.int .i64 (classT n)) ∧ w = w' := by
  obtain ⟨c0, c1, c2, c3, c4, c5, c6, c7, c8, c9, c10, c11, c12, c13, hb⟩ := h
  have i0 : ∀ w, (Instr.index 112 (.agg #[.int .i64 16, .int .i64 32, .int .i64 48, .int .i64 64, .int .i64 80, .int .i64 96, .int .i64 112, .int .i64 128, .int .i64 192, .int .i64 256, .int .i64 384, .int .i64 512, .int .i64 768, .int .i64 1024]) (.int .i64 0)).run Tryd.prog w = .ok (.int .i64 16) w := fun _ => by kernel_rfl
  have i1 : ∀ w, (Instr.index 112 (.agg #[.int .i64 16, .int .i64 32, .int .i64 48, .int .i64 64, .int .i64 80, .int .i64 96, .int .i64 112, .int .i64 128, .int .i64 192, .int .i64 256, .int .i64 384, .int .i64 512, .int .i64 768, .int .i64 1024]) (.int .i64 1)).run Tryd.prog w = .ok (.int .i64 32) w := fun _ => by kernel_rfl
  have i2 : ∀ w, (Instr.index 112 (.agg #[.int .i64 16, .int .i64 32, .int .i64 48, .int .i64 64, .int .i64 80, .int .i64 96, .int .i64 112, .int .i64 128, .int .i64 192, .int .i64 256, .int .i64 384, .int .i64 512, .int .i64 768, .int .i64 1024]) (.int .i64 2)).run Tryd.prog w = .ok (.int .i64 48) w := fun _ => by kernel_rfl
  have i3 : ∀ w, (Instr.index 112 (.agg #[.int .i64 16, .int .i64 32, .int .i64 48, .int .i64 64, .int .i64 80, .int .i64 96, .int .i64 112, .int .i64 128, .int .i64 192, .int .i64 256, .int .i64 384, .int .i64 512, .int .i64 768, .int .i64 1024]) (.int .i64 3)).run Tryd.prog w = .ok (.int .i64 64) w := fun _ => by kernel_rfl
  have i4 : ∀ w, (Instr.index 112 (.agg #[.int .i64 16, .int .i64 32, .int .i64 48, .int .i64 64, .int .i64 80, .int .i64 96, .int .i64 112, .int .i64 128, .int .i64 192, .int .i64 256, .int .i64 384, .int .i64 512, .int .i64 768, .int .i64 1024]) (.int .i64 4)).run Tryd.prog w = .ok (.int .i64 80) w := fun _ => by kernel_rfl
  have i5 : ∀ w, (Instr.index 112 (.agg #[.int .i64 16, .int .i64 32, .int .i64 48, .int .i64 64, .int .i64 80, .int .i64 96, .int .i64 112, .int .i64 128, .int .i64 192, .int .i64 256, .int .i64 384, .int .i64 512, .int .i64 768, .int .i64 1024]) (.int .i64 5)).run Tryd.prog w = .ok (.int .i64 96) w := fun _ => by kernel_rfl
  have i6 : ∀ w, (Instr.index 112 (.agg #[.int .i64 16, .int .i64 32, .int .i64 48, .int .i64 64, .int .i64 80, .int .i64 96, .int .i64 112, .int .i64 128, .int .i64 192, .int .i64 256, .int .i64 384, .int .i64 512, .int .i64 768, .int .i64 1024]) (.int .i64 6)).run Tryd.prog w = .ok (.int .i64 112) w := fun _ => by kernel_rfl
  have i7 : ∀ w, (Instr.index 112 (.agg #[.int .i64 16, .int .i64 32, .int .i64 48, .int .i64 64, .int .i64 80, .int .i64 96, .int .i64 112, .int .i64 128, .int .i64 192, .int .i64 256, .int .i64 384, .int .i64 512, .int .i64 768, .int .i64 1024]) (.int .i64 7)).run Tryd.prog w = .ok (.int .i64 128) w := fun _ => by kernel_rfl
  have i8 : ∀ w, (Instr.index 112 (.agg #[.int .i64 16, .int .i64 32, .int .i64 48, .int .i64 64, .int .i64 80, .int .i64 96, .int .i64 112, .int .i64 128, .int .i64 192, .int .i64 256, .int .i64 384, .int .i64 512, .int .i64 768, .int .i64 1024]) (.int .i64 8)).run Tryd.prog w = .ok (.int .i64 192) w := fun _ => by kernel_rfl
  have i9 : ∀ w, (Instr.index 112 (.agg #[.int .i64 16, .int .i64 32, .int .i64 48, .int .i64 64, .int .i64 80, .int .i64 96, .int .i64 112, .int .i64 128, .int .i64 192, .int .i64 256, .int .i64 384, .int .i64 512, .int .i64 768, .int .i64 1024]) (.int .i64 9)).run Tryd.prog w = .ok (.int .i64 256) w := fun _ => by kernel_rfl
  have i10 : ∀ w, (Instr.index 112 (.agg #[.int .i64 16, .int .i64 32, .int .i64 48, .int .i64 64, .int .i64 80, .int .i64 96, .int .i64 112, .int .i64 128, .int .i64 192, .int .i64 256, .int .i64 384, .int .i64 512, .int .i64 768, .int .i64 1024]) (.int .i64 10)).run Tryd.prog w = .ok (.int .i64 384) w := fun _ => by kernel_rfl
  have i11 : ∀ w, (Instr.index 112 (.agg #[.int .i64 16, .int .i64 32, .int .i64 48, .int .i64 64, .int .i64 80, .int .i64 96, .int .i64 112, .int .i64 128, .int .i64 192, .int .i64 256, .int .i64 384, .int .i64 512, .int .i64 768, .int .i64 1024]) (.int .i64 11)).run Tryd.prog w = .ok (.int .i64 512) w := fun _ => by kernel_rfl
  have i12 : ∀ w, (Instr.index 112 (.agg #[.int .i64 16, .int .i64 32, .int .i64 48, .int .i64 64, .int .i64 80, .int .i64 96, .int .i64 112, .int .i64 128, .int .i64 192, .int .i64 256, .int .i64 384, .int .i64 512, .int .i64 768, .int .i64 1024]) (.int .i64 12)).run Tryd.prog w = .ok (.int .i64 768) w := fun _ => by kernel_rfl
  have i13 : ∀ w, (Instr.index 112 (.agg #[.int .i64 16, .int .i64 32, .int .i64 48, .int .i64 64, .int .i64 80, .int .i64 96, .int .i64 112, .int .i64 128, .int .i64 192, .int .i64 256, .int .i64 384, .int .i64 512, .int .i64 768, .int .i64 1024]) (.int .i64 13)).run Tryd.prog w = .ok (.int .i64 1024) w := fun _ => by kernel_rfl
  by_cases h0 : n < 0
  · have e : classT n = -1 := by unfold classT; rw [if_pos h0]
    rw [e]
    clear e
    go_enter Tryd.func63, Tryd.ntmps63
    go_wp2
    go_ret
    exact ⟨rfl, rfl⟩
  by_cases h1 : 65536 < n
  · have e : classT n = -1 := by unfold classT; rw [if_neg h0, if_pos h1]
    rw [e]
    clear e
    go_enter Tryd.func63, Tryd.ntmps63
    go_wp2
    go_ret
    exact ⟨rfl, rfl⟩
  by_cases k0 : n ≤ 16
  · have e : classT n = 0 := by unfold classT; rw [if_neg h0, if_neg h1, if_pos k0]
    rw [e]
    clear e
    have d0 : decide (n ≤ 16) = true := by simp; omega
    go_enter Tryd.func63, Tryd.ntmps63
    go_wp2
    refine wp_loop_rounds 1 ?_
    rw [rounds_succ]
    go_wp2
    go_ret
    exact ⟨rfl, rfl⟩
  by_cases k1 : n ≤ 32
  · have e : classT n = 1 := by unfold classT; rw [if_neg h0, if_neg h1, if_neg k0, if_pos k1]
    rw [e]
    clear e
    have d0 : decide (n ≤ 16) = false := by simp; omega
    have d1 : decide (n ≤ 32) = true := by simp; omega
    go_enter Tryd.func63, Tryd.ntmps63
    go_wp2
    refine wp_loop_rounds 2 ?_
    rw [rounds_succ]
    go_wp2
    rw [rounds_succ]
    go_wp2
    go_ret
    exact ⟨rfl, rfl⟩
  by_cases k2 : n ≤ 48
  · have e : classT n = 2 := by unfold classT; rw [if_neg h0, if_neg h1, if_neg k0, if_neg k1, if_pos k2]
    rw [e]
    clear e
    have d0 : decide (n ≤ 16) = false := by simp; omega
    have d1 : decide (n ≤ 32) = false := by simp; omega
    have d2 : decide (n ≤ 48) = true := by simp; omega
    go_enter Tryd.func63, Tryd.ntmps63
    go_wp2
    refine wp_loop_rounds 3 ?_
    rw [rounds_succ]
    go_wp2
    rw [rounds_succ]
    go_wp2
    rw [rounds_succ]
    go_wp2
    go_ret
    exact ⟨rfl, rfl⟩
  by_cases k3 : n ≤ 64
  · have e : classT n = 3 := by unfold classT; rw [if_neg h0, if_neg h1, if_neg k0, if_neg k1, if_neg k2, if_pos k3]
    rw [e]
    clear e
    have d0 : decide (n ≤ 16) = false := by simp; omega
    have d1 : decide (n ≤ 32) = false := by simp; omega
    have d2 : decide (n ≤ 48) = false := by simp; omega
    have d3 : decide (n ≤ 64) = true := by simp; omega
    go_enter Tryd.func63, Tryd.ntmps63
    go_wp2
    refine wp_loop_rounds 4 ?_
    rw [rounds_succ]
    go_wp2
    rw [rounds_succ]
    go_wp2
    rw [rounds_succ]
    go_wp2
    rw [rounds_succ]
    go_wp2
    go_ret
    exact ⟨rfl, rfl⟩
  by_cases k4 : n ≤ 80
  · have e : classT n = 4 := by unfold classT; rw [if_neg h0, if_neg h1, if_neg k0, if_neg k1, if_neg k2, if_neg k3, if_pos k4]
    rw [e]
    clear e
    have d0 : decide (n ≤ 16) = false := by simp; omega
    have d1 : decide (n ≤ 32) = false := by simp; omega
    have d2 : decide (n ≤ 48) = false := by simp; omega
    have d3 : decide (n ≤ 64) = false := by simp; omega
    have d4 : decide (n ≤ 80) = true := by simp; omega
    go_enter Tryd.func63, Tryd.ntmps63
    go_wp2
    refine wp_loop_rounds 5 ?_
    rw [rounds_succ]
    go_wp2
    rw [rounds_succ]
    go_wp2
    rw [rounds_succ]
    go_wp2
    rw [rounds_succ]
    go_wp2
    rw [rounds_succ]
    go_wp2
    go_ret
    exact ⟨rfl, rfl⟩
  by_cases k5 : n ≤ 96
  · have e : classT n = 5 := by unfold classT; rw [if_neg h0, if_neg h1, if_neg k0, if_neg k1, if_neg k2, if_neg k3, if_neg k4, if_pos k5]
    rw [e]
    clear e
    have d0 : decide (n ≤ 16) = false := by simp; omega
    have d1 : decide (n ≤ 32) = false := by simp; omega
    have d2 : decide (n ≤ 48) = false := by simp; omega
    have d3 : decide (n ≤ 64) = false := by simp; omega
    have d4 : decide (n ≤ 80) = false := by simp; omega
    have d5 : decide (n ≤ 96) = true := by simp; omega
    go_enter Tryd.func63, Tryd.ntmps63
    go_wp2
    refine wp_loop_rounds 6 ?_
    rw [rounds_succ]
    go_wp2
    rw [rounds_succ]
    go_wp2
    rw [rounds_succ]
    go_wp2
    rw [rounds_succ]
    go_wp2
    rw [rounds_succ]
    go_wp2
    rw [rounds_succ]
    go_wp2
    go_ret
    exact ⟨rfl, rfl⟩
  by_cases k6 : n ≤ 112
  · have e : classT n = 6 := by unfold classT; rw [if_neg h0, if_neg h1, if_neg k0, if_neg k1, if_neg k2, if_neg k3, if_neg k4, if_neg k5, if_pos k6]
    rw [e]
    clear e
    have d0 : decide (n ≤ 16) = false := by simp; omega
    have d1 : decide (n ≤ 32) = false := by simp; omega
    have d2 : decide (n ≤ 48) = false := by simp; omega
    have d3 : decide (n ≤ 64) = false := by simp; omega
    have d4 : decide (n ≤ 80) = false := by simp; omega
    have d5 : decide (n ≤ 96) = false := by simp; omega
    have d6 : decide (n ≤ 112) = true := by simp; omega
    go_enter Tryd.func63, Tryd.ntmps63
    go_wp2
    refine wp_loop_rounds 7 ?_
    rw [rounds_succ]
    go_wp2
    rw [rounds_succ]
    go_wp2
    rw [rounds_succ]
    go_wp2
    rw [rounds_succ]
    go_wp2
    rw [rounds_succ]
    go_wp2
    rw [rounds_succ]
    go_wp2
    rw [rounds_succ]
    go_wp2
    go_ret
    exact ⟨rfl, rfl⟩
  by_cases k7 : n ≤ 128
  · have e : classT n = 7 := by unfold classT; rw [if_neg h0, if_neg h1, if_neg k0, if_neg k1, if_neg k2, if_neg k3, if_neg k4, if_neg k5, if_neg k6, if_pos k7]
    rw [e]
    clear e
    have d0 : decide (n ≤ 16) = false := by simp; omega
    have d1 : decide (n ≤ 32) = false := by simp; omega
    have d2 : decide (n ≤ 48) = false := by simp; omega
    have d3 : decide (n ≤ 64) = false := by simp; omega
    have d4 : decide (n ≤ 80) = false := by simp; omega
    have d5 : decide (n ≤ 96) = false := by simp; omega
    have d6 : decide (n ≤ 112) = false := by simp; omega
    have d7 : decide (n ≤ 128) = true := by simp; omega
    go_enter Tryd.func63, Tryd.ntmps63
    go_wp2
    refine wp_loop_rounds 8 ?_
    rw [rounds_succ]
    go_wp2
    rw [rounds_succ]
    go_wp2
    rw [rounds_succ]
    go_wp2
    rw [rounds_succ]
    go_wp2
    rw [rounds_succ]
    go_wp2
    rw [rounds_succ]
    go_wp2
    rw [rounds_succ]
    go_wp2
    rw [rounds_succ]
    go_wp2
    go_ret
    exact ⟨rfl, rfl⟩
  by_cases k8 : n ≤ 192
  · have e : classT n = 8 := by unfold classT; rw [if_neg h0, if_neg h1, if_neg k0, if_neg k1, if_neg k2, if_neg k3, if_neg k4, if_neg k5, if_neg k6, if_neg k7, if_pos k8]
    rw [e]
    clear e
    have d0 : decide (n ≤ 16) = false := by simp; omega
    have d1 : decide (n ≤ 32) = false := by simp; omega
    have d2 : decide (n ≤ 48) = false := by simp; omega
    have d3 : decide (n ≤ 64) = false := by simp; omega
    have d4 : decide (n ≤ 80) = false := by simp; omega
    have d5 : decide (n ≤ 96) = false := by simp; omega
    have d6 : decide (n ≤ 112) = false := by simp; omega
    have d7 : decide (n ≤ 128) = false := by simp; omega
    have d8 : decide (n ≤ 192) = true := by simp; omega
    go_enter Tryd.func63, Tryd.ntmps63
    go_wp2
    refine wp_loop_rounds 9 ?_
    rw [rounds_succ]
    go_wp2
    rw [rounds_succ]
    go_wp2
    rw [rounds_succ]
    go_wp2
    rw [rounds_succ]
    go_wp2
    rw [rounds_succ]
    go_wp2
    rw [rounds_succ]
    go_wp2
    rw [rounds_succ]
    go_wp2
    rw [rounds_succ]
    go_wp2
    rw [rounds_succ]
    go_wp2
    go_ret
    exact ⟨rfl, rfl⟩
  by_cases k9 : n ≤ 256
  · have e : classT n = 9 := by unfold classT; rw [if_neg h0, if_neg h1, if_neg k0, if_neg k1, if_neg k2, if_neg k3, if_neg k4, if_neg k5, if_neg k6, if_neg k7, if_neg k8, if_pos k9]
    rw [e]
    clear e
    have d0 : decide (n ≤ 16) = false := by simp; omega
    have d1 : decide (n ≤ 32) = false := by simp; omega
    have d2 : decide (n ≤ 48) = false := by simp; omega
    have d3 : decide (n ≤ 64) = false := by simp; omega
    have d4 : decide (n ≤ 80) = false := by simp; omega
    have d5 : decide (n ≤ 96) = false := by simp; omega
    have d6 : decide (n ≤ 112) = false := by simp; omega
    have d7 : decide (n ≤ 128) = false := by simp; omega
    have d8 : decide (n ≤ 192) = false := by simp; omega
    have d9 : decide (n ≤ 256) = true := by simp; omega
    go_enter Tryd.func63, Tryd.ntmps63
    go_wp2
    refine wp_loop_rounds 10 ?_
    rw [rounds_succ]
    go_wp2
    rw [rounds_succ]
    go_wp2
    rw [rounds_succ]
    go_wp2
    rw [rounds_succ]
    go_wp2
    rw [rounds_succ]
    go_wp2
    rw [rounds_succ]
    go_wp2
    rw [rounds_succ]
    go_wp2
    rw [rounds_succ]
    go_wp2
    rw [rounds_succ]
    go_wp2
    rw [rounds_succ]
    go_wp2
    go_ret
    exact ⟨rfl, rfl⟩
  by_cases k10 : n ≤ 384
  · have e : classT n = 10 := by unfold classT; rw [if_neg h0, if_neg h1, if_neg k0, if_neg k1, if_neg k2, if_neg k3, if_neg k4, if_neg k5, if_neg k6, if_neg k7, if_neg k8, if_neg k9, if_pos k10]
    rw [e]
    clear e
    have d0 : decide (n ≤ 16) = false := by simp; omega
    have d1 : decide (n ≤ 32) = false := by simp; omega
    have d2 : decide (n ≤ 48) = false := by simp; omega
    have d3 : decide (n ≤ 64) = false := by simp; omega
    have d4 : decide (n ≤ 80) = false := by simp; omega
    have d5 : decide (n ≤ 96) = false := by simp; omega
    have d6 : decide (n ≤ 112) = false := by simp; omega
    have d7 : decide (n ≤ 128) = false := by simp; omega
    have d8 : decide (n ≤ 192) = false := by simp; omega
    have d9 : decide (n ≤ 256) = false := by simp; omega
    have d10 : decide (n ≤ 384) = true := by simp; omega
    go_enter Tryd.func63, Tryd.ntmps63
    go_wp2
    refine wp_loop_rounds 11 ?_
    rw [rounds_succ]
    go_wp2
    rw [rounds_succ]
    go_wp2
    rw [rounds_succ]
    go_wp2
    rw [rounds_succ]
    go_wp2
    rw [rounds_succ]
    go_wp2
    rw [rounds_succ]
    go_wp2
    rw [rounds_succ]
    go_wp2
    rw [rounds_succ]
    go_wp2
    rw [rounds_succ]
    go_wp2
    rw [rounds_succ]
    go_wp2
    rw [rounds_succ]
    go_wp2
    go_ret
    exact ⟨rfl, rfl⟩
  by_cases k11 : n ≤ 512
  · have e : classT n = 11 := by unfold classT; rw [if_neg h0, if_neg h1, if_neg k0, if_neg k1, if_neg k2, if_neg k3, if_neg k4, if_neg k5, if_neg k6, if_neg k7, if_neg k8, if_neg k9, if_neg k10, if_pos k11]
    rw [e]
    clear e
    have d0 : decide (n ≤ 16) = false := by simp; omega
    have d1 : decide (n ≤ 32) = false := by simp; omega
    have d2 : decide (n ≤ 48) = false := by simp; omega
    have d3 : decide (n ≤ 64) = false := by simp; omega
    have d4 : decide (n ≤ 80) = false := by simp; omega
    have d5 : decide (n ≤ 96) = false := by simp; omega
    have d6 : decide (n ≤ 112) = false := by simp; omega
    have d7 : decide (n ≤ 128) = false := by simp; omega
    have d8 : decide (n ≤ 192) = false := by simp; omega
    have d9 : decide (n ≤ 256) = false := by simp; omega
    have d10 : decide (n ≤ 384) = false := by simp; omega
    have d11 : decide (n ≤ 512) = true := by simp; omega
    go_enter Tryd.func63, Tryd.ntmps63
    go_wp2
    refine wp_loop_rounds 12 ?_
    rw [rounds_succ]
    go_wp2
    rw [rounds_succ]
    go_wp2
    rw [rounds_succ]
    go_wp2
    rw [rounds_succ]
    go_wp2
    rw [rounds_succ]
    go_wp2
    rw [rounds_succ]
    go_wp2
    rw [rounds_succ]
    go_wp2
    rw [rounds_succ]
    go_wp2
    rw [rounds_succ]
    go_wp2
    rw [rounds_succ]
    go_wp2
    rw [rounds_succ]
    go_wp2
    rw [rounds_succ]
    go_wp2
    go_ret
    exact ⟨rfl, rfl⟩
  by_cases k12 : n ≤ 768
  · have e : classT n = 12 := by unfold classT; rw [if_neg h0, if_neg h1, if_neg k0, if_neg k1, if_neg k2, if_neg k3, if_neg k4, if_neg k5, if_neg k6, if_neg k7, if_neg k8, if_neg k9, if_neg k10, if_neg k11, if_pos k12]
    rw [e]
    clear e
    have d0 : decide (n ≤ 16) = false := by simp; omega
    have d1 : decide (n ≤ 32) = false := by simp; omega
    have d2 : decide (n ≤ 48) = false := by simp; omega
    have d3 : decide (n ≤ 64) = false := by simp; omega
    have d4 : decide (n ≤ 80) = false := by simp; omega
    have d5 : decide (n ≤ 96) = false := by simp; omega
    have d6 : decide (n ≤ 112) = false := by simp; omega
    have d7 : decide (n ≤ 128) = false := by simp; omega
    have d8 : decide (n ≤ 192) = false := by simp; omega
    have d9 : decide (n ≤ 256) = false := by simp; omega
    have d10 : decide (n ≤ 384) = false := by simp; omega
    have d11 : decide (n ≤ 512) = false := by simp; omega
    have d12 : decide (n ≤ 768) = true := by simp; omega
    go_enter Tryd.func63, Tryd.ntmps63
    go_wp2
    refine wp_loop_rounds 13 ?_
    rw [rounds_succ]
    go_wp2
    rw [rounds_succ]
    go_wp2
    rw [rounds_succ]
    go_wp2
    rw [rounds_succ]
    go_wp2
    rw [rounds_succ]
    go_wp2
    rw [rounds_succ]
    go_wp2
    rw [rounds_succ]
    go_wp2
    rw [rounds_succ]
    go_wp2
    rw [rounds_succ]
    go_wp2
    rw [rounds_succ]
    go_wp2
    rw [rounds_succ]
    go_wp2
    rw [rounds_succ]
    go_wp2
    rw [rounds_succ]
    go_wp2
    go_ret
    exact ⟨rfl, rfl⟩
  by_cases k13 : n ≤ 1024
  · have e : classT n = 13 := by unfold classT; rw [if_neg h0, if_neg h1, if_neg k0, if_neg k1, if_neg k2, if_neg k3, if_neg k4, if_neg k5, if_neg k6, if_neg k7, if_neg k8, if_neg k9, if_neg k10, if_neg k11, if_neg k12, if_pos k13]
    rw [e]
    clear e
    have d0 : decide (n ≤ 16) = false := by simp; omega
    have d1 : decide (n ≤ 32) = false := by simp; omega
    have d2 : decide (n ≤ 48) = false := by simp; omega
    have d3 : decide (n ≤ 64) = false := by simp; omega
    have d4 : decide (n ≤ 80) = false := by simp; omega
    have d5 : decide (n ≤ 96) = false := by simp; omega
    have d6 : decide (n ≤ 112) = false := by simp; omega
    have d7 : decide (n ≤ 128) = false := by simp; omega
    have d8 : decide (n ≤ 192) = false := by simp; omega
    have d9 : decide (n ≤ 256) = false := by simp; omega
    have d10 : decide (n ≤ 384) = false := by simp; omega
    have d11 : decide (n ≤ 512) = false := by simp; omega
    have d12 : decide (n ≤ 768) = false := by simp; omega
    have d13 : decide (n ≤ 1024) = true := by simp; omega
    go_enter Tryd.func63, Tryd.ntmps63
    go_wp2
    refine wp_loop_rounds 14 ?_
    rw [rounds_succ]
    go_wp2
    rw [rounds_succ]
    go_wp2
    rw [rounds_succ]
    go_wp2
    rw [rounds_succ]
    go_wp2
    rw [rounds_succ]
    go_wp2
    rw [rounds_succ]
    go_wp2
    rw [rounds_succ]
    go_wp2
    rw [rounds_succ]
    go_wp2
    rw [rounds_succ]
    go_wp2
    rw [rounds_succ]
    go_wp2
    rw [rounds_succ]
    go_wp2
    rw [rounds_succ]
    go_wp2
    rw [rounds_succ]
    go_wp2
    rw [rounds_succ]
    go_wp2
    go_ret
    exact ⟨rfl, rfl⟩
  have e : classT n = 14 := by unfold classT; rw [if_neg h0, if_neg h1, if_neg k0, if_neg k1, if_neg k2, if_neg k3, if_neg k4, if_neg k5, if_neg k6, if_neg k7, if_neg k8, if_neg k9, if_neg k10, if_neg k11, if_neg k12, if_neg k13]
  rw [e]
  clear e
  have d0 : decide (n ≤ 16) = false := by simp; omega
  have d1 : decide (n ≤ 32) = false := by simp; omega
  have d2 : decide (n ≤ 48) = false := by simp; omega
  have d3 : decide (n ≤ 64) = false := by simp; omega
  have d4 : decide (n ≤ 80) = false := by simp; omega
  have d5 : decide (n ≤ 96) = false := by simp; omega
  have d6 : decide (n ≤ 112) = false := by simp; omega
  have d7 : decide (n ≤ 128) = false := by simp; omega
  have d8 : decide (n ≤ 192) = false := by simp; omega
  have d9 : decide (n ≤ 256) = false := by simp; omega
  have d10 : decide (n ≤ 384) = false := by simp; omega
  have d11 : decide (n ≤ 512) = false := by simp; omega
  have d12 : decide (n ≤ 768) = false := by simp; omega
  have d13 : decide (n ≤ 1024) = false := by simp; omega
  go_enter Tryd.func63, Tryd.ntmps63
  go_wp2
  refine wp_loop_rounds 15 ?_
  rw [rounds_succ]
  go_wp2
  rw [rounds_succ]
  go_wp2
  rw [rounds_succ]
  go_wp2
  rw [rounds_succ]
  go_wp2
  rw [rounds_succ]
  go_wp2
  rw [rounds_succ]
  go_wp2
  rw [rounds_succ]
  go_wp2
  rw [rounds_succ]
  go_wp2
  rw [rounds_succ]
  go_wp2
  rw [rounds_succ]
  go_wp2
  rw [rounds_succ]
  go_wp2
  rw [rounds_succ]
  go_wp2
  rw [rounds_succ]
  go_wp2
  rw [rounds_succ]
  go_wp2
  rw [rounds_succ]
  go_wp2
  go_ret
  exact ⟨rfl, rfl⟩

set_option maxRecDepth 100000 in
set_option maxHeartbeats 16000000 in
theorem round_ (n : Int) (w : World) (h : Tab w) :
    Calls Tryd.prog 40 #[.int .i64 n] w fun e w' => e = .returned (.tuple #[.int .i64 (roundT n), .bool (roundB n)]) ∧ w = w' := by
  have H := h
  obtain ⟨c0, c1, c2, c3, c4, c5, c6, c7, c8, c9, c10, c11, c12, c13, hb⟩ := h
  by_cases h0 : n < 0
  · have e : classT n = -1 := by unfold classT; rw [if_pos h0]
    have e2 : roundT n = 0 := by unfold roundT; rw [if_pos h0]
    have e3 : roundB n = false := by unfold roundB; simp; omega
    rw [e2, e3]
    clear e2 e3
    go_enter Tryd.func40, Tryd.ntmps40
    go_wp2_with (go_at_call 63; refine (class_ n _ H).mono ?_; rintro e w1 ⟨rfl, rfl⟩)
    go_ret2
    exact ⟨rfl, rfl⟩
  by_cases h1 : 65536 < n
  · have e : classT n = -1 := by unfold classT; rw [if_neg h0, if_pos h1]
    have e2 : roundT n = 0 := by unfold roundT; rw [if_neg h0, if_pos h1]
    have e3 : roundB n = false := by unfold roundB; simp; omega
    rw [e2, e3]
    clear e2 e3
    go_enter Tryd.func40, Tryd.ntmps40
    go_wp2_with (go_at_call 63; refine (class_ n _ H).mono ?_; rintro e w1 ⟨rfl, rfl⟩)
    go_ret2
    exact ⟨rfl, rfl⟩
  by_cases k0 : n ≤ 16
  · have e : classT n = 0 := by unfold classT; rw [if_neg h0, if_neg h1, if_pos k0]
    have e2 : roundT n = 16 := by unfold roundT; rw [if_neg h0, if_neg h1, if_pos k0]
    have e3 : roundB n = true := by unfold roundB; simp; omega
    rw [e2, e3]
    clear e2 e3
    go_enter Tryd.func40, Tryd.ntmps40
    go_wp2_with (go_at_call 63; refine (class_ n _ H).mono ?_; rintro e w1 ⟨rfl, rfl⟩)
    go_ret2
    exact ⟨rfl, rfl⟩
  by_cases k1 : n ≤ 32
  · have e : classT n = 1 := by unfold classT; rw [if_neg h0, if_neg h1, if_neg k0, if_pos k1]
    have e2 : roundT n = 32 := by unfold roundT; rw [if_neg h0, if_neg h1, if_neg k0, if_pos k1]
    have e3 : roundB n = true := by unfold roundB; simp; omega
    rw [e2, e3]
    clear e2 e3
    go_enter Tryd.func40, Tryd.ntmps40
    go_wp2_with (go_at_call 63; refine (class_ n _ H).mono ?_; rintro e w1 ⟨rfl, rfl⟩)
    go_ret2
    exact ⟨rfl, rfl⟩
  by_cases k2 : n ≤ 48
  · have e : classT n = 2 := by unfold classT; rw [if_neg h0, if_neg h1, if_neg k0, if_neg k1, if_pos k2]
    have e2 : roundT n = 48 := by unfold roundT; rw [if_neg h0, if_neg h1, if_neg k0, if_neg k1, if_pos k2]
    have e3 : roundB n = true := by unfold roundB; simp; omega
    rw [e2, e3]
    clear e2 e3
    go_enter Tryd.func40, Tryd.ntmps40
    go_wp2_with (go_at_call 63; refine (class_ n _ H).mono ?_; rintro e w1 ⟨rfl, rfl⟩)
    go_ret2
    exact ⟨rfl, rfl⟩
  by_cases k3 : n ≤ 64
  · have e : classT n = 3 := by unfold classT; rw [if_neg h0, if_neg h1, if_neg k0, if_neg k1, if_neg k2, if_pos k3]
    have e2 : roundT n = 64 := by unfold roundT; rw [if_neg h0, if_neg h1, if_neg k0, if_neg k1, if_neg k2, if_pos k3]
    have e3 : roundB n = true := by unfold roundB; simp; omega
    rw [e2, e3]
    clear e2 e3
    go_enter Tryd.func40, Tryd.ntmps40
    go_wp2_with (go_at_call 63; refine (class_ n _ H).mono ?_; rintro e w1 ⟨rfl, rfl⟩)
    go_ret2
    exact ⟨rfl, rfl⟩
  by_cases k4 : n ≤ 80
  · have e : classT n = 4 := by unfold classT; rw [if_neg h0, if_neg h1, if_neg k0, if_neg k1, if_neg k2, if_neg k3, if_pos k4]
    have e2 : roundT n = 80 := by unfold roundT; rw [if_neg h0, if_neg h1, if_neg k0, if_neg k1, if_neg k2, if_neg k3, if_pos k4]
    have e3 : roundB n = true := by unfold roundB; simp; omega
    rw [e2, e3]
    clear e2 e3
    go_enter Tryd.func40, Tryd.ntmps40
    go_wp2_with (go_at_call 63; refine (class_ n _ H).mono ?_; rintro e w1 ⟨rfl, rfl⟩)
    go_ret2
    exact ⟨rfl, rfl⟩
  by_cases k5 : n ≤ 96
  · have e : classT n = 5 := by unfold classT; rw [if_neg h0, if_neg h1, if_neg k0, if_neg k1, if_neg k2, if_neg k3, if_neg k4, if_pos k5]
    have e2 : roundT n = 96 := by unfold roundT; rw [if_neg h0, if_neg h1, if_neg k0, if_neg k1, if_neg k2, if_neg k3, if_neg k4, if_pos k5]
    have e3 : roundB n = true := by unfold roundB; simp; omega
    rw [e2, e3]
    clear e2 e3
    go_enter Tryd.func40, Tryd.ntmps40
    go_wp2_with (go_at_call 63; refine (class_ n _ H).mono ?_; rintro e w1 ⟨rfl, rfl⟩)
    go_ret2
    exact ⟨rfl, rfl⟩
  by_cases k6 : n ≤ 112
  · have e : classT n = 6 := by unfold classT; rw [if_neg h0, if_neg h1, if_neg k0, if_neg k1, if_neg k2, if_neg k3, if_neg k4, if_neg k5, if_pos k6]
    have e2 : roundT n = 112 := by unfold roundT; rw [if_neg h0, if_neg h1, if_neg k0, if_neg k1, if_neg k2, if_neg k3, if_neg k4, if_neg k5, if_pos k6]
    have e3 : roundB n = true := by unfold roundB; simp; omega
    rw [e2, e3]
    clear e2 e3
    go_enter Tryd.func40, Tryd.ntmps40
    go_wp2_with (go_at_call 63; refine (class_ n _ H).mono ?_; rintro e w1 ⟨rfl, rfl⟩)
    go_ret2
    exact ⟨rfl, rfl⟩
  by_cases k7 : n ≤ 128
  · have e : classT n = 7 := by unfold classT; rw [if_neg h0, if_neg h1, if_neg k0, if_neg k1, if_neg k2, if_neg k3, if_neg k4, if_neg k5, if_neg k6, if_pos k7]
    have e2 : roundT n = 128 := by unfold roundT; rw [if_neg h0, if_neg h1, if_neg k0, if_neg k1, if_neg k2, if_neg k3, if_neg k4, if_neg k5, if_neg k6, if_pos k7]
    have e3 : roundB n = true := by unfold roundB; simp; omega
    rw [e2, e3]
    clear e2 e3
    go_enter Tryd.func40, Tryd.ntmps40
    go_wp2_with (go_at_call 63; refine (class_ n _ H).mono ?_; rintro e w1 ⟨rfl, rfl⟩)
    go_ret2
    exact ⟨rfl, rfl⟩
  by_cases k8 : n ≤ 192
  · have e : classT n = 8 := by unfold classT; rw [if_neg h0, if_neg h1, if_neg k0, if_neg k1, if_neg k2, if_neg k3, if_neg k4, if_neg k5, if_neg k6, if_neg k7, if_pos k8]
    have e2 : roundT n = 192 := by unfold roundT; rw [if_neg h0, if_neg h1, if_neg k0, if_neg k1, if_neg k2, if_neg k3, if_neg k4, if_neg k5, if_neg k6, if_neg k7, if_pos k8]
    have e3 : roundB n = true := by unfold roundB; simp; omega
    rw [e2, e3]
    clear e2 e3
    go_enter Tryd.func40, Tryd.ntmps40
    go_wp2_with (go_at_call 63; refine (class_ n _ H).mono ?_; rintro e w1 ⟨rfl, rfl⟩)
    go_ret2
    exact ⟨rfl, rfl⟩
  by_cases k9 : n ≤ 256
  · have e : classT n = 9 := by unfold classT; rw [if_neg h0, if_neg h1, if_neg k0, if_neg k1, if_neg k2, if_neg k3, if_neg k4, if_neg k5, if_neg k6, if_neg k7, if_neg k8, if_pos k9]
    have e2 : roundT n = 256 := by unfold roundT; rw [if_neg h0, if_neg h1, if_neg k0, if_neg k1, if_neg k2, if_neg k3, if_neg k4, if_neg k5, if_neg k6, if_neg k7, if_neg k8, if_pos k9]
    have e3 : roundB n = true := by unfold roundB; simp; omega
    rw [e2, e3]
    clear e2 e3
    go_enter Tryd.func40, Tryd.ntmps40
    go_wp2_with (go_at_call 63; refine (class_ n _ H).mono ?_; rintro e w1 ⟨rfl, rfl⟩)
    go_ret2
    exact ⟨rfl, rfl⟩
  by_cases k10 : n ≤ 384
  · have e : classT n = 10 := by unfold classT; rw [if_neg h0, if_neg h1, if_neg k0, if_neg k1, if_neg k2, if_neg k3, if_neg k4, if_neg k5, if_neg k6, if_neg k7, if_neg k8, if_neg k9, if_pos k10]
    have e2 : roundT n = 384 := by unfold roundT; rw [if_neg h0, if_neg h1, if_neg k0, if_neg k1, if_neg k2, if_neg k3, if_neg k4, if_neg k5, if_neg k6, if_neg k7, if_neg k8, if_neg k9, if_pos k10]
    have e3 : roundB n = true := by unfold roundB; simp; omega
    rw [e2, e3]
    clear e2 e3
    go_enter Tryd.func40, Tryd.ntmps40
    go_wp2_with (go_at_call 63; refine (class_ n _ H).mono ?_; rintro e w1 ⟨rfl, rfl⟩)
    go_ret2
    exact ⟨rfl, rfl⟩
  by_cases k11 : n ≤ 512
  · have e : classT n = 11 := by unfold classT; rw [if_neg h0, if_neg h1, if_neg k0, if_neg k1, if_neg k2, if_neg k3, if_neg k4, if_neg k5, if_neg k6, if_neg k7, if_neg k8, if_neg k9, if_neg k10, if_pos k11]
    have e2 : roundT n = 512 := by unfold roundT; rw [if_neg h0, if_neg h1, if_neg k0, if_neg k1, if_neg k2, if_neg k3, if_neg k4, if_neg k5, if_neg k6, if_neg k7, if_neg k8, if_neg k9, if_neg k10, if_pos k11]
    have e3 : roundB n = true := by unfold roundB; simp; omega
    rw [e2, e3]
    clear e2 e3
    go_enter Tryd.func40, Tryd.ntmps40
    go_wp2_with (go_at_call 63; refine (class_ n _ H).mono ?_; rintro e w1 ⟨rfl, rfl⟩)
    go_ret2
    exact ⟨rfl, rfl⟩
  by_cases k12 : n ≤ 768
  · have e : classT n = 12 := by unfold classT; rw [if_neg h0, if_neg h1, if_neg k0, if_neg k1, if_neg k2, if_neg k3, if_neg k4, if_neg k5, if_neg k6, if_neg k7, if_neg k8, if_neg k9, if_neg k10, if_neg k11, if_pos k12]
    have e2 : roundT n = 768 := by unfold roundT; rw [if_neg h0, if_neg h1, if_neg k0, if_neg k1, if_neg k2, if_neg k3, if_neg k4, if_neg k5, if_neg k6, if_neg k7, if_neg k8, if_neg k9, if_neg k10, if_neg k11, if_pos k12]
    have e3 : roundB n = true := by unfold roundB; simp; omega
    rw [e2, e3]
    clear e2 e3
    go_enter Tryd.func40, Tryd.ntmps40
    go_wp2_with (go_at_call 63; refine (class_ n _ H).mono ?_; rintro e w1 ⟨rfl, rfl⟩)
    go_ret2
    exact ⟨rfl, rfl⟩
  by_cases k13 : n ≤ 1024
  · have e : classT n = 13 := by unfold classT; rw [if_neg h0, if_neg h1, if_neg k0, if_neg k1, if_neg k2, if_neg k3, if_neg k4, if_neg k5, if_neg k6, if_neg k7, if_neg k8, if_neg k9, if_neg k10, if_neg k11, if_neg k12, if_pos k13]
    have e2 : roundT n = 1024 := by unfold roundT; rw [if_neg h0, if_neg h1, if_neg k0, if_neg k1, if_neg k2, if_neg k3, if_neg k4, if_neg k5, if_neg k6, if_neg k7, if_neg k8, if_neg k9, if_neg k10, if_neg k11, if_neg k12, if_pos k13]
    have e3 : roundB n = true := by unfold roundB; simp; omega
    rw [e2, e3]
    clear e2 e3
    go_enter Tryd.func40, Tryd.ntmps40
    go_wp2_with (go_at_call 63; refine (class_ n _ H).mono ?_; rintro e w1 ⟨rfl, rfl⟩)
    go_ret2
    exact ⟨rfl, rfl⟩
  have e : classT n = 14 := by unfold classT; rw [if_neg h0, if_neg h1, if_neg k0, if_neg k1, if_neg k2, if_neg k3, if_neg k4, if_neg k5, if_neg k6, if_neg k7, if_neg k8, if_neg k9, if_neg k10, if_neg k11, if_neg k12, if_neg k13]
  have e2 : roundT n = (n + 255) / 256 * 256 := by unfold roundT; rw [if_neg h0, if_neg h1, if_neg k0, if_neg k1, if_neg k2, if_neg k3, if_neg k4, if_neg k5, if_neg k6, if_neg k7, if_neg k8, if_neg k9, if_neg k10, if_neg k11, if_neg k12, if_neg k13]
  have e3 : roundB n = true := by unfold roundB; simp; omega
  rw [e2, e3]
  clear e2 e3
  go_enter Tryd.func40, Tryd.ntmps40
  go_wp2_with (go_at_call 63; refine (class_ n _ H).mono ?_; rintro e w1 ⟨rfl, rfl⟩)
  go_ret2
  refine ⟨?_, rfl⟩
  first | rfl | (simp; omega)

end Go.Proofs.YtoeiemeffiiidaaDoor

namespace Go.Proofs.YtoeiemeffiiidaaDoor
set_option maxRecDepth 100000
set_option linter.unusedSimpArgs false
set_option linter.unusedVariables false
open Go.RowKit

set_option maxRecDepth 100000 in
set_option maxHeartbeats 4000000 in
theorem rsizes  (w : World) :
    Calls Tryd.prog 47 #[] w fun e w' => e = .returned (.slice (some ⟨w.heap.size, 0, none⟩) 14 14) ∧ w' = w.alloc (.cells #[.int .i64 16, .int .i64 32, .int .i64 48, .int .i64 64, .int .i64 80, .int .i64 96, .int .i64 112, .int .i64 128, .int .i64 192, .int .i64 256, .int .i64 384, .int .i64 512, .int .i64 768, .int .i64 1024] 3) := by
  go_enter Tryd.func47, Tryd.ntmps47
  go_wp2
  go_ret
  exact ⟨rfl, rfl⟩

set_option maxRecDepth 100000 in
set_option maxHeartbeats 16000000 in
theorem rround (n : Int) (w : World) :
    Calls Tryd.prog 24 #[.int .i64 n] w fun e w' => e = .returned (.tuple #[.int .i64 (roundT n), .bool (roundB n)]) ∧ Ext w w' := by
  by_cases h0 : n < 0
  · have e2 : roundT n = 0 := by unfold roundT; rw [if_pos h0]
    have e3 : roundB n = false := by unfold roundB; simp; omega
    rw [e2, e3]
    clear e2 e3
    go_enter Tryd.func24, Tryd.ntmps24
    go_wp2
    go_ret2
    exact ⟨rfl, (by repeat (first | (with_reducible exact Ext.refl _) | (with_reducible refine Ext.undrew ?_) | (with_reducible refine Ext.grow ?_ _) | (with_reducible refine Ext.drew ?_) | (with_reducible refine Ext.drewN ?_ _) | (with_reducible refine Ext.alloc ?_ _) | (with_reducible assumption) | ((with_reducible refine Ext.setCell ?_ ?_ _); rotate_left; (first | exact Nat.le_refl _ | ((try dsimp only); (try simp only [World.size_alloc, grow_size, World.size_setCell]); omega)))))⟩
  by_cases h1 : 65536 < n
  · have e2 : roundT n = 0 := by unfold roundT; rw [if_neg h0, if_pos h1]
    have e3 : roundB n = false := by unfold roundB; simp; omega
    rw [e2, e3]
    clear e2 e3
    go_enter Tryd.func24, Tryd.ntmps24
    go_wp2
    go_ret2
    exact ⟨rfl, (by repeat (first | (with_reducible exact Ext.refl _) | (with_reducible refine Ext.undrew ?_) | (with_reducible refine Ext.grow ?_ _) | (with_reducible refine Ext.drew ?_) | (with_reducible refine Ext.drewN ?_ _) | (with_reducible refine Ext.alloc ?_ _) | (with_reducible assumption) | ((with_reducible refine Ext.setCell ?_ ?_ _); rotate_left; (first | exact Nat.le_refl _ | ((try dsimp only); (try simp only [World.size_alloc, grow_size, World.size_setCell]); omega)))))⟩
  by_cases k0 : n ≤ 16
  · have e2 : roundT n = 16 := by unfold roundT; rw [if_neg h0, if_neg h1, if_pos k0]
    have e3 : roundB n = true := by unfold roundB; simp; omega
    rw [e2, e3]
    clear e2 e3
    have d0 : decide (n ≤ 16) = true := by simp; omega
    go_enter Tryd.func24, Tryd.ntmps24
    go_wp2_with (go_at_call 47; refine (rsizes _).mono ?_; rintro e w1 ⟨rfl, rfl⟩)
    refine wp_loop_rounds 1 ?_
    rw [rounds_succ]
    go_wp2
    go_ret2
    exact ⟨rfl, (by repeat (first | (with_reducible exact Ext.refl _) | (with_reducible refine Ext.undrew ?_) | (with_reducible refine Ext.grow ?_ _) | (with_reducible refine Ext.drew ?_) | (with_reducible refine Ext.drewN ?_ _) | (with_reducible refine Ext.alloc ?_ _) | (with_reducible assumption) | ((with_reducible refine Ext.setCell ?_ ?_ _); rotate_left; (first | exact Nat.le_refl _ | ((try dsimp only); (try simp only [World.size_alloc, grow_size, World.size_setCell]); omega)))))⟩
  by_cases k1 : n ≤ 32
  · have e2 : roundT n = 32 := by unfold roundT; rw [if_neg h0, if_neg h1, if_neg k0, if_pos k1]
    have e3 : roundB n = true := by unfold roundB; simp; omega
    rw [e2, e3]
    clear e2 e3
    have d0 : decide (n ≤ 16) = false := by simp; omega
    have d1 : decide (n ≤ 32) = true := by simp; omega
    go_enter Tryd.func24, Tryd.ntmps24
    go_wp2_with (go_at_call 47; refine (rsizes _).mono ?_; rintro e w1 ⟨rfl, rfl⟩)
    refine wp_loop_rounds 2 ?_
    rw [rounds_succ]
    go_wp2
    rw [rounds_succ]
    go_wp2
    go_ret2
    exact ⟨rfl, (by repeat (first | (with_reducible exact Ext.refl _) | (with_reducible refine Ext.undrew ?_) | (with_reducible refine Ext.grow ?_ _) | (with_reducible refine Ext.drew ?_) | (with_reducible refine Ext.drewN ?_ _) | (with_reducible refine Ext.alloc ?_ _) | (with_reducible assumption) | ((with_reducible refine Ext.setCell ?_ ?_ _); rotate_left; (first | exact Nat.le_refl _ | ((try dsimp only); (try simp only [World.size_alloc, grow_size, World.size_setCell]); omega)))))⟩
  by_cases k2 : n ≤ 48
  · have e2 : roundT n = 48 := by unfold roundT; rw [if_neg h0, if_neg h1, if_neg k0, if_neg k1, if_pos k2]
    have e3 : roundB n = true := by unfold roundB; simp; omega
    rw [e2, e3]
    clear e2 e3
    have d0 : decide (n ≤ 16) = false := by simp; omega
    have d1 : decide (n ≤ 32) = false := by simp; omega
    have d2 : decide (n ≤ 48) = true := by simp; omega
    go_enter Tryd.func24, Tryd.ntmps24
    go_wp2_with (go_at_call 47; refine (rsizes _).mono ?_; rintro e w1 ⟨rfl, rfl⟩)
    refine wp_loop_rounds 3 ?_
    rw [rounds_succ]
    go_wp2
    rw [rounds_succ]
    go_wp2
    rw [rounds_succ]
    go_wp2
    go_ret2
    exact ⟨rfl, (by repeat (first | (with_reducible exact Ext.refl _) | (with_reducible refine Ext.undrew ?_) | (with_reducible refine Ext.grow ?_ _) | (with_reducible refine Ext.drew ?_) | (with_reducible refine Ext.drewN ?_ _) | (with_reducible refine Ext.alloc ?_ _) | (with_reducible assumption) | ((with_reducible refine Ext.setCell ?_ ?_ _); rotate_left; (first | exact Nat.le_refl _ | ((try dsimp only); (try simp only [World.size_alloc, grow_size, World.size_setCell]); omega)))))⟩
  by_cases k3 : n ≤ 64
  · have e2 : roundT n = 64 := by unfold roundT; rw [if_neg h0, if_neg h1, if_neg k0, if_neg k1, if_neg k2, if_pos k3]
    have e3 : roundB n = true := by unfold roundB; simp; omega
    rw [e2, e3]
    clear e2 e3
    have d0 : decide (n ≤ 16) = false := by simp; omega
    have d1 : decide (n ≤ 32) = false := by simp; omega
    have d2 : decide (n ≤ 48) = false := by simp; omega
    have d3 : decide (n ≤ 64) = true := by simp; omega
    go_enter Tryd.func24, Tryd.ntmps24
    go_wp2_with (go_at_call 47; refine (rsizes _).mono ?_; rintro e w1 ⟨rfl, rfl⟩)
    refine wp_loop_rounds 4 ?_
    rw [rounds_succ]
    go_wp2
    rw [rounds_succ]
    go_wp2
    rw [rounds_succ]
    go_wp2
    rw [rounds_succ]
    go_wp2
    go_ret2
    exact ⟨rfl, (by repeat (first | (with_reducible exact Ext.refl _) | (with_reducible refine Ext.undrew ?_) | (with_reducible refine Ext.grow ?_ _) | (with_reducible refine Ext.drew ?_) | (with_reducible refine Ext.drewN ?_ _) | (with_reducible refine Ext.alloc ?_ _) | (with_reducible assumption) | ((with_reducible refine Ext.setCell ?_ ?_ _); rotate_left; (first | exact Nat.le_refl _ | ((try dsimp only); (try simp only [World.size_alloc, grow_size, World.size_setCell]); omega)))))⟩
  by_cases k4 : n ≤ 80
  · have e2 : roundT n = 80 := by unfold roundT; rw [if_neg h0, if_neg h1, if_neg k0, if_neg k1, if_neg k2, if_neg k3, if_pos k4]
    have e3 : roundB n = true := by unfold roundB; simp; omega
    rw [e2, e3]
    clear e2 e3
    have d0 : decide (n ≤ 16) = false := by simp; omega
    have d1 : decide (n ≤ 32) = false := by simp; omega
    have d2 : decide (n ≤ 48) = false := by simp; omega
    have d3 : decide (n ≤ 64) = false := by simp; omega
    have d4 : decide (n ≤ 80) = true := by simp; omega
    go_enter Tryd.func24, Tryd.ntmps24
    go_wp2_with (go_at_call 47; refine (rsizes _).mono ?_; rintro e w1 ⟨rfl, rfl⟩)
    refine wp_loop_rounds 5 ?_
    rw [rounds_succ]
    go_wp2
    rw [rounds_succ]
    go_wp2
    rw [rounds_succ]
    go_wp2
    rw [rounds_succ]
    go_wp2
    rw [rounds_succ]
    go_wp2
    go_ret2
    exact ⟨rfl, (by repeat (first | (with_reducible exact Ext.refl _) | (with_reducible refine Ext.undrew ?_) | (with_reducible refine Ext.grow ?_ _) | (with_reducible refine Ext.drew ?_) | (with_reducible refine Ext.drewN ?_ _) | (with_reducible refine Ext.alloc ?_ _) | (with_reducible assumption) | ((with_reducible refine Ext.setCell ?_ ?_ _); rotate_left; (first | exact Nat.le_refl _ | ((try dsimp only); (try simp only [World.size_alloc, grow_size, World.size_setCell]); omega)))))⟩
  by_cases k5 : n ≤ 96
  · have e2 : roundT n = 96 := by unfold roundT; rw [if_neg h0, if_neg h1, if_neg k0, if_neg k1, if_neg k2, if_neg k3, if_neg k4, if_pos k5]
    have e3 : roundB n = true := by unfold roundB; simp; omega
    rw [e2, e3]
    clear e2 e3
    have d0 : decide (n ≤ 16) = false := by simp; omega
    have d1 : decide (n ≤ 32) = false := by simp; omega
    have d2 : decide (n ≤ 48) = false := by simp; omega
    have d3 : decide (n ≤ 64) = false := by simp; omega
    have d4 : decide (n ≤ 80) = false := by simp; omega
    have d5 : decide (n ≤ 96) = true := by simp; omega
    go_enter Tryd.func24, Tryd.ntmps24
    go_wp2_with (go_at_call 47; refine (rsizes _).mono ?_; rintro e w1 ⟨rfl, rfl⟩)
    refine wp_loop_rounds 6 ?_
    rw [rounds_succ]
    go_wp2
    rw [rounds_succ]
    go_wp2
    rw [rounds_succ]
    go_wp2
    rw [rounds_succ]
    go_wp2
    rw [rounds_succ]
    go_wp2
    rw [rounds_succ]
    go_wp2
    go_ret2
    exact ⟨rfl, (by repeat (first | (with_reducible exact Ext.refl _) | (with_reducible refine Ext.undrew ?_) | (with_reducible refine Ext.grow ?_ _) | (with_reducible refine Ext.drew ?_) | (with_reducible refine Ext.drewN ?_ _) | (with_reducible refine Ext.alloc ?_ _) | (with_reducible assumption) | ((with_reducible refine Ext.setCell ?_ ?_ _); rotate_left; (first | exact Nat.le_refl _ | ((try dsimp only); (try simp only [World.size_alloc, grow_size, World.size_setCell]); omega)))))⟩
  by_cases k6 : n ≤ 112
  · have e2 : roundT n = 112 := by unfold roundT; rw [if_neg h0, if_neg h1, if_neg k0, if_neg k1, if_neg k2, if_neg k3, if_neg k4, if_neg k5, if_pos k6]
    have e3 : roundB n = true := by unfold roundB; simp; omega
    rw [e2, e3]
    clear e2 e3
    have d0 : decide (n ≤ 16) = false := by simp; omega
    have d1 : decide (n ≤ 32) = false := by simp; omega
    have d2 : decide (n ≤ 48) = false := by simp; omega
    have d3 : decide (n ≤ 64) = false := by simp; omega
    have d4 : decide (n ≤ 80) = false := by simp; omega
    have d5 : decide (n ≤ 96) = false := by simp; omega
    have d6 : decide (n ≤ 112) = true := by simp; omega
    go_enter Tryd.func24, Tryd.ntmps24
    go_wp2_with (go_at_call 47; refine (rsizes _).mono ?_; rintro e w1 ⟨rfl, rfl⟩)
    refine wp_loop_rounds 7 ?_
    rw [rounds_succ]
    go_wp2
    rw [rounds_succ]
    go_wp2
    rw [rounds_succ]
    go_wp2
    rw [rounds_succ]
    go_wp2
    rw [rounds_succ]
    go_wp2
    rw [rounds_succ]
    go_wp2
    rw [rounds_succ]
    go_wp2
    go_ret2
    exact ⟨rfl, (by repeat (first | (with_reducible exact Ext.refl _) | (with_reducible refine Ext.undrew ?_) | (with_reducible refine Ext.grow ?_ _) | (with_reducible refine Ext.drew ?_) | (with_reducible refine Ext.drewN ?_ _) | (with_reducible refine Ext.alloc ?_ _) | (with_reducible assumption) | ((with_reducible refine Ext.setCell ?_ ?_ _); rotate_left; (first | exact Nat.le_refl _ | ((try dsimp only); (try simp only [World.size_alloc, grow_size, World.size_setCell]); omega)))))⟩
  by_cases k7 : n ≤ 128
  · have e2 : roundT n = 128 := by unfold roundT; rw [if_neg h0, if_neg h1, if_neg k0, if_neg k1, if_neg k2, if_neg k3, if_neg k4, if_neg k5, if_neg k6, if_pos k7]
    have e3 : roundB n = true := by unfold roundB; simp; omega
    rw [e2, e3]
    clear e2 e3
    have d0 : decide (n ≤ 16) = false := by simp; omega
    have d1 : decide (n ≤ 32) = false := by simp; omega
    have d2 : decide (n ≤ 48) = false := by simp; omega
    have d3 : decide (n ≤ 64) = false := by simp; omega
    have d4 : decide (n ≤ 80) = false := by simp; omega
    have d5 : decide (n ≤ 96) = false := by simp; omega
    have d6 : decide (n ≤ 112) = false := by simp; omega
    have d7 : decide (n ≤ 128) = true := by simp; omega
    go_enter Tryd.func24, Tryd.ntmps24
    go_wp2_with (go_at_call 47; refine (rsizes _).mono ?_; rintro e w1 ⟨rfl, rfl⟩)
    refine wp_loop_rounds 8 ?_
    rw [rounds_succ]
    go_wp2
    rw [rounds_succ]
    go_wp2
    rw [rounds_succ]
    go_wp2
    rw [rounds_succ]
    go_wp2
    rw [rounds_succ]
    go_wp2
    rw [rounds_succ]
    go_wp2
    rw [rounds_succ]
    go_wp2
    rw [rounds_succ]
    go_wp2
    go_ret2
    exact ⟨rfl, (by repeat (first | (with_reducible exact Ext.refl _) | (with_reducible refine Ext.undrew ?_) | (with_reducible refine Ext.grow ?_ _) | (with_reducible refine Ext.drew ?_) | (with_reducible refine Ext.drewN ?_ _) | (with_reducible refine Ext.alloc ?_ _) | (with_reducible assumption) | ((with_reducible refine Ext.setCell ?_ ?_ _); rotate_left; (first | exact Nat.le_refl _ | ((try dsimp only); (try simp only [World.size_alloc, grow_size, World.size_setCell]); omega)))))⟩
  by_cases k8 : n ≤ 192
  · have e2 : roundT n = 192 := by unfold roundT; rw [if_neg h0, if_neg h1, if_neg k0, if_neg k1, if_neg k2, if_neg k3, if_neg k4, if_neg k5, if_neg k6, if_neg k7, if_pos k8]
    have e3 : roundB n = true := by unfold roundB; simp; omega
    rw [e2, e3]
    clear e2 e3
    have d0 : decide (n ≤ 16) = false := by simp; omega
    have d1 : decide (n ≤ 32) = false := by simp; omega
    have d2 : decide (n ≤ 48) = false := by simp; omega
    have d3 : decide (n ≤ 64) = false := by simp; omega
    have d4 : decide (n ≤ 80) = false := by simp; omega
    have d5 : decide (n ≤ 96) = false := by simp; omega
    have d6 : decide (n ≤ 112) = false := by simp; omega
    have d7 : decide (n ≤ 128) = false := by simp; omega
    have d8 : decide (n ≤ 192) = true := by simp; omega
    go_enter Tryd.func24, Tryd.ntmps24
    go_wp2_with (go_at_call 47; refine (rsizes _).mono ?_; rintro e w1 ⟨rfl, rfl⟩)
    refine wp_loop_rounds 9 ?_
    rw [rounds_succ]
    go_wp2
    rw [rounds_succ]
    go_wp2
    rw [rounds_succ]
    go_wp2
    rw [rounds_succ]
    go_wp2
    rw [rounds_succ]
    go_wp2
    rw [rounds_succ]
    go_wp2
    rw [rounds_succ]
    go_wp2
    rw [rounds_succ]
    go_wp2
    rw [rounds_succ]
    go_wp2
    go_ret2
    exact ⟨rfl, (by repeat (first | (with_reducible exact Ext.refl _) | (with_reducible refine Ext.undrew ?_) | (with_reducible refine Ext.grow ?_ _) | (with_reducible refine Ext.drew ?_) | (with_reducible refine Ext.drewN ?_ _) | (with_reducible refine Ext.alloc ?_ _) | (with_reducible assumption) | ((with_reducible refine Ext.setCell ?_ ?_ _); rotate_left; (first | exact Nat.le_refl _ | ((try dsimp only); (try simp only [World.size_alloc, grow_size, World.size_setCell]); omega)))))⟩
  by_cases k9 : n ≤ 256
  · have e2 : roundT n = 256 := by unfold roundT; rw [if_neg h0, if_neg h1, if_neg k0, if_neg k1, if_neg k2, if_neg k3, if_neg k4, if_neg k5, if_neg k6, if_neg k7, if_neg k8, if_pos k9]
    have e3 : roundB n = true := by unfold roundB; simp; omega
    rw [e2, e3]
    clear e2 e3
    have d0 : decide (n ≤ 16) = false := by simp; omega
    have d1 : decide (n ≤ 32) = false := by simp; omega
    have d2 : decide (n ≤ 48) = false := by simp; omega
    have d3 : decide (n ≤ 64) = false := by simp; omega
    have d4 : decide (n ≤ 80) = false := by simp; omega
    have d5 : decide (n ≤ 96) = false := by simp; omega
    have d6 : decide (n ≤ 112) = false := by simp; omega
    have d7 : decide (n ≤ 128) = false := by simp; omega
    have d8 : decide (n ≤ 192) = false := by simp; omega
    have d9 : decide (n ≤ 256) = true := by simp; omega
    go_enter Tryd.func24, Tryd.ntmps24
    go_wp2_with (go_at_call 47; refine (rsizes _).mono ?_; rintro e w1 ⟨rfl, rfl⟩)
    refine wp_loop_rounds 10 ?_
    rw [rounds_succ]
    go_wp2
    rw [rounds_succ]
    go_wp2
    rw [rounds_succ]
    go_wp2
    rw [rounds_succ]
    go_wp2
    rw [rounds_succ]
    go_wp2
    rw [rounds_succ]
    go_wp2
    rw [rounds_succ]
    go_wp2
    rw [rounds_succ]
    go_wp2
    rw [rounds_succ]
    go_wp2
    rw [rounds_succ]
    go_wp2
    go_ret2
    exact ⟨rfl, (by repeat (first | (with_reducible exact Ext.refl _) | (with_reducible refine Ext.undrew ?_) | (with_reducible refine Ext.grow ?_ _) | (with_reducible refine Ext.drew ?_) | (with_reducible refine Ext.drewN ?_ _) | (with_reducible refine Ext.alloc ?_ _) | (with_reducible assumption) | ((with_reducible refine Ext.setCell ?_ ?_ _); rotate_left; (first | exact Nat.le_refl _ | ((try dsimp only); (try simp only [World.size_alloc, grow_size, World.size_setCell]); omega)))))⟩
  by_cases k10 : n ≤ 384
  · have e2 : roundT n = 384 := by unfold roundT; rw [if_neg h0, if_neg h1, if_neg k0, if_neg k1, if_neg k2, if_neg k3, if_neg k4, if_neg k5, if_neg k6, if_neg k7, if_neg k8, if_neg k9, if_pos k10]
    have e3 : roundB n = true := by unfold roundB; simp; omega
    rw [e2, e3]
    clear e2 e3
    have d0 : decide (n ≤ 16) = false := by simp; omega
    have d1 : decide (n ≤ 32) = false := by simp; omega
    have d2 : decide (n ≤ 48) = false := by simp; omega
    have d3 : decide (n ≤ 64) = false := by simp; omega
    have d4 : decide (n ≤ 80) = false := by simp; omega
    have d5 : decide (n ≤ 96) = false := by simp; omega
    have d6 : decide (n ≤ 112) = false := by simp; omega
    have d7 : decide (n ≤ 128) = false := by simp; omega
    have d8 : decide (n ≤ 192) = false := by simp; omega
    have d9 : decide (n ≤ 256) = false := by simp; omega
    have d10 : decide (n ≤ 384) = true := by simp; omega
    go_enter Tryd.func24, Tryd.ntmps24
    go_wp2_with (go_at_call 47; refine (rsizes _).mono ?_; rintro e w1 ⟨rfl, rfl⟩)
    refine wp_loop_rounds 11 ?_
    rw [rounds_succ]
    go_wp2
    rw [rounds_succ]
    go_wp2
    rw [rounds_succ]
    go_wp2
    rw [rounds_succ]
    go_wp2
    rw [rounds_succ]
    go_wp2
    rw [rounds_succ]
    go_wp2
    rw [rounds_succ]
    go_wp2
    rw [rounds_succ]
    go_wp2
    rw [rounds_succ]
    go_wp2
    rw [rounds_succ]
    go_wp2
    rw [rounds_succ]
    go_wp2
    go_ret2
    exact ⟨rfl, (by repeat (first | (with_reducible exact Ext.refl _) | (with_reducible refine Ext.undrew ?_) | (with_reducible refine Ext.grow ?_ _) | (with_reducible refine Ext.drew ?_) | (with_reducible refine Ext.drewN ?_ _) | (with_reducible refine Ext.alloc ?_ _) | (with_reducible assumption) | ((with_reducible refine Ext.setCell ?_ ?_ _); rotate_left; (first | exact Nat.le_refl _ | ((try dsimp only); (try simp only [World.size_alloc, grow_size, World.size_setCell]); omega)))))⟩
  by_cases k11 : n ≤ 512
  · have e2 : roundT n = 512 := by unfold roundT; rw [if_neg h0, if_neg h1, if_neg k0, if_neg k1, if_neg k2, if_neg k3, if_neg k4, if_neg k5, if_neg k6, if_neg k7, if_neg k8, if_neg k9, if_neg k10, if_pos k11]
    have e3 : roundB n = true := by unfold roundB; simp; omega
    rw [e2, e3]
    clear e2 e3
    have d0 : decide (n ≤ 16) = false := by simp; omega
    have d1 : decide (n ≤ 32) = false := by simp; omega
    have d2 : decide (n ≤ 48) = false := by simp; omega
    have d3 : decide (n ≤ 64) = false := by simp; omega
    have d4 : decide (n ≤ 80) = false := by simp; omega
    have d5 : decide (n ≤ 96) = false := by simp; omega
    have d6 : decide (n ≤ 112) = false := by simp; omega
    have d7 : decide (n ≤ 128) = false := by simp; omega
    have d8 : decide (n ≤ 192) = false := by simp; omega
    have d9 : decide (n ≤ 256) = false := by simp; omega
    have d10 : decide (n ≤ 384) = false := by simp; omega
    have d11 : decide (n ≤ 512) = true := by simp; omega
    go_enter Tryd.func24, Tryd.ntmps24
    go_wp2_with (go_at_call 47; refine (rsizes _).mono ?_; rintro e w1 ⟨rfl, rfl⟩)
    refine wp_loop_rounds 12 ?_
    rw [rounds_succ]
    go_wp2
    rw [rounds_succ]
    go_wp2
    rw [rounds_succ]
    go_wp2
    rw [rounds_succ]
    go_wp2
    rw [rounds_succ]
    go_wp2
    rw [rounds_succ]
    go_wp2
    rw [rounds_succ]
    go_wp2
    rw [rounds_succ]
    go_wp2
    rw [rounds_succ]
    go_wp2
    rw [rounds_succ]
    go_wp2
    rw [rounds_succ]
    go_wp2
    rw [rounds_succ]
    go_wp2
    go_ret2
    exact ⟨rfl, (by repeat (first | (with_reducible exact Ext.refl _) | (with_reducible refine Ext.undrew ?_) | (with_reducible refine Ext.grow ?_ _) | (with_reducible refine Ext.drew ?_) | (with_reducible refine Ext.drewN ?_ _) | (with_reducible refine Ext.alloc ?_ _) | (with_reducible assumption) | ((with_reducible refine Ext.setCell ?_ ?_ _); rotate_left; (first | exact Nat.le_refl _ | ((try dsimp only); (try simp only [World.size_alloc, grow_size, World.size_setCell]); omega)))))⟩
  by_cases k12 : n ≤ 768
  · have e2 : roundT n = 768 := by unfold roundT; rw [if_neg h0, if_neg h1, if_neg k0, if_neg k1, if_neg k2, if_neg k3, if_neg k4, if_neg k5, if_neg k6, if_neg k7, if_neg k8, if_neg k9, if_neg k10, if_neg k11, if_pos k12]
    have e3 : roundB n = true := by unfold roundB; simp; omega
    rw [e2, e3]
    clear e2 e3
    have d0 : decide (n ≤ 16) = false := by simp; omega
    have d1 : decide (n ≤ 32) = false := by simp; omega
    have d2 : decide (n ≤ 48) = false := by simp; omega
    have d3 : decide (n ≤ 64) = false := by simp; omega
    have d4 : decide (n ≤ 80) = false := by simp; omega
    have d5 : decide (n ≤ 96) = false := by simp; omega
    have d6 : decide (n ≤ 112) = false := by simp; omega
    have d7 : decide (n ≤ 128) = false := by simp; omega
    have d8 : decide (n ≤ 192) = false := by simp; omega
    have d9 : decide (n ≤ 256) = false := by simp; omega
    have d10 : decide (n ≤ 384) = false := by simp; omega
    have d11 : decide (n ≤ 512) = false := by simp; omega
    have d12 : decide (n ≤ 768) = true := by simp; omega
    go_enter Tryd.func24, Tryd.ntmps24
    go_wp2_with (go_at_call 47; refine (rsizes _).mono ?_; rintro e w1 ⟨rfl, rfl⟩)
    refine wp_loop_rounds 13 ?_
    rw [rounds_succ]
    go_wp2
    rw [rounds_succ]
    go_wp2
    rw [rounds_succ]
    go_wp2
    rw [rounds_succ]
    go_wp2
    rw [rounds_succ]
    go_wp2
    rw [rounds_succ]
    go_wp2
    rw [rounds_succ]
    go_wp2
    rw [rounds_succ]
    go_wp2
    rw [rounds_succ]
    go_wp2
    rw [rounds_succ]
    go_wp2
    rw [rounds_succ]
    go_wp2
    rw [rounds_succ]
    go_wp2
    rw [rounds_succ]
    go_wp2
    go_ret2
    exact ⟨rfl, (by repeat (first | (with_reducible exact Ext.refl _) | (with_reducible refine Ext.undrew ?_) | (with_reducible refine Ext.grow ?_ _) | (with_reducible refine Ext.drew ?_) | (with_reducible refine Ext.drewN ?_ _) | (with_reducible refine Ext.alloc ?_ _) | (with_reducible assumption) | ((with_reducible refine Ext.setCell ?_ ?_ _); rotate_left; (first | exact Nat.le_refl _ | ((try dsimp only); (try simp only [World.size_alloc, grow_size, World.size_setCell]); omega)))))⟩
  by_cases k13 : n ≤ 1024
  · have e2 : roundT n = 1024 := by unfold roundT; rw [if_neg h0, if_neg h1, if_neg k0, if_neg k1, if_neg k2, if_neg k3, if_neg k4, if_neg k5, if_neg k6, if_neg k7, if_neg k8, if_neg k9, if_neg k10, if_neg k11, if_neg k12, if_pos k13]
    have e3 : roundB n = true := by unfold roundB; simp; omega
    rw [e2, e3]
    clear e2 e3
    have d0 : decide (n ≤ 16) = false := by simp; omega
    have d1 : decide (n ≤ 32) = false := by simp; omega
    have d2 : decide (n ≤ 48) = false := by simp; omega
    have d3 : decide (n ≤ 64) = false := by simp; omega
    have d4 : decide (n ≤ 80) = false := by simp; omega
    have d5 : decide (n ≤ 96) = false := by simp; omega
    have d6 : decide (n ≤ 112) = false := by simp; omega
    have d7 : decide (n ≤ 128) = false := by simp; omega
    have d8 : decide (n ≤ 192) = false := by simp; omega
    have d9 : decide (n ≤ 256) = false := by simp; omega
    have d10 : decide (n ≤ 384) = false := by simp; omega
    have d11 : decide (n ≤ 512) = false := by simp; omega
    have d12 : decide (n ≤ 768) = false := by simp; omega
    have d13 : decide (n ≤ 1024) = true := by simp; omega
    go_enter Tryd.func24, Tryd.ntmps24
    go_wp2_with (go_at_call 47; refine (rsizes _).mono ?_; rintro e w1 ⟨rfl, rfl⟩)
    refine wp_loop_rounds 14 ?_
    rw [rounds_succ]
    go_wp2
    rw [rounds_succ]
    go_wp2
    rw [rounds_succ]
    go_wp2
    rw [rounds_succ]
    go_wp2
    rw [rounds_succ]
    go_wp2
    rw [rounds_succ]
    go_wp2
    rw [rounds_succ]
    go_wp2
    rw [rounds_succ]
    go_wp2
    rw [rounds_succ]
    go_wp2
    rw [rounds_succ]
    go_wp2
    rw [rounds_succ]
    go_wp2
    rw [rounds_succ]
    go_wp2
    rw [rounds_succ]
    go_wp2
    rw [rounds_succ]
    go_wp2
    go_ret2
    exact ⟨rfl, (by repeat (first | (with_reducible exact Ext.refl _) | (with_reducible refine Ext.undrew ?_) | (with_reducible refine Ext.grow ?_ _) | (with_reducible refine Ext.drew ?_) | (with_reducible refine Ext.drewN ?_ _) | (with_reducible refine Ext.alloc ?_ _) | (with_reducible assumption) | ((with_reducible refine Ext.setCell ?_ ?_ _); rotate_left; (first | exact Nat.le_refl _ | ((try dsimp only); (try simp only [World.size_alloc, grow_size, World.size_setCell]); omega)))))⟩
  have e2 : roundT n = (n + 255) / 256 * 256 := by unfold roundT; rw [if_neg h0, if_neg h1, if_neg k0, if_neg k1, if_neg k2, if_neg k3, if_neg k4, if_neg k5, if_neg k6, if_neg k7, if_neg k8, if_neg k9, if_neg k10, if_neg k11, if_neg k12, if_neg k13]
  have e3 : roundB n = true := by unfold roundB; simp; omega
  rw [e2, e3]
  clear e2 e3
  have d0 : decide (n ≤ 16) = false := by simp; omega
  have d1 : decide (n ≤ 32) = false := by simp; omega
  have d2 : decide (n ≤ 48) = false := by simp; omega
  have d3 : decide (n ≤ 64) = false := by simp; omega
  have d4 : decide (n ≤ 80) = false := by simp; omega
  have d5 : decide (n ≤ 96) = false := by simp; omega
  have d6 : decide (n ≤ 112) = false := by simp; omega
  have d7 : decide (n ≤ 128) = false := by simp; omega
  have d8 : decide (n ≤ 192) = false := by simp; omega
  have d9 : decide (n ≤ 256) = false := by simp; omega
  have d10 : decide (n ≤ 384) = false := by simp; omega
  have d11 : decide (n ≤ 512) = false := by simp; omega
  have d12 : decide (n ≤ 768) = false := by simp; omega
  have d13 : decide (n ≤ 1024) = false := by simp; omega
  go_enter Tryd.func24, Tryd.ntmps24
  go_wp2_with (go_at_call 47; refine (rsizes _).mono ?_; rintro e w1 ⟨rfl, rfl⟩)
  refine wp_loop_rounds 15 ?_
  rw [rounds_succ]
  go_wp2
  rw [rounds_succ]
  go_wp2
  rw [rounds_succ]
  go_wp2
  rw [rounds_succ]
  go_wp2
  rw [rounds_succ]
  go_wp2
  rw [rounds_succ]
  go_wp2
  rw [rounds_succ]
  go_wp2
  rw [rounds_succ]
  go_wp2
  rw [rounds_succ]
  go_wp2
  rw [rounds_succ]
  go_wp2
  rw [rounds_succ]
  go_wp2
  rw [rounds_succ]
  go_wp2
  rw [rounds_succ]
  go_wp2
  rw [rounds_succ]
  go_wp2
  rw [rounds_succ]
  go_wp2
  go_loop [6] (fun m => ∃ j : Nat, m = .int .i64 (1280 + 256 * j) ∧ 1024 + 256 * (j : Int) < n) (fun m => (n - intOf m).toNat)
  case atStart => exact ⟨0, by go_num, by omega⟩
  case round =>
    obtain ⟨j, rfl, hj⟩ := hrel
    by_cases hlt : 1280 + 256 * (j : Int) < n
    · go_wp2
      go_round
      case rel => exact ⟨j + 1, by go_num, by omega⟩
      case measure => simp [intOf]; omega
    · go_wp2
      go_ret2
      refine ⟨?_, (by repeat (first | (with_reducible exact Ext.refl _) | (with_reducible refine Ext.undrew ?_) | (with_reducible refine Ext.grow ?_ _) | (with_reducible refine Ext.drew ?_) | (with_reducible refine Ext.drewN ?_ _) | (with_reducible refine Ext.alloc ?_ _) | (with_reducible assumption) | ((with_reducible refine Ext.setCell ?_ ?_ _); rotate_left; (first | exact Nat.le_refl _ | ((try dsimp only); (try simp only [World.size_alloc, grow_size, World.size_setCell]); omega)))))⟩
      have hv : 1280 + 256 * (j : Int) = (n + 255) / 256 * 256 := by omega
      simp [hv]

end Go.Proofs.YtoeiemeffiiidaaDoor

namespace Go.Proofs.YtoeiemeffiiidaaDoor
set_option maxRecDepth 100000
set_option linter.unusedSimpArgs false
set_option linter.unusedVariables false
open Go.RowKit


theorem wfu8 {n : Int} (h : (Lit.int .u8 n).wf = true) : 0 ≤ n ∧ n ≤ 255 := by
  simpa [Lit.wf, IntKind.min, IntKind.max, IntKind.signed, IntKind.bits] using h
theorem wfu16 {n : Int} (h : (Lit.int .u16 n).wf = true) : 0 ≤ n ∧ n ≤ 65535 := by
  simpa [Lit.wf, IntKind.min, IntKind.max, IntKind.signed, IntKind.bits] using h
theorem roundT_bd {n : Int} (h0 : 0 ≤ n) (h1 : n ≤ 65536) : n ≤ roundT n ∧ roundT n ≤ n + 255 ∧ 16 ≤ roundT n ∧ roundT n % 16 = 0 ∧ roundT n ≤ 65536 := by
  unfold roundT
  repeat' split
  all_goals omega
theorem roundT_great {n : Int} (h0 : 1024 < n) (h1 : n ≤ 65536) : roundT n = (n + 255) / 256 * 256 := by
  unfold roundT
  repeat' split
  all_goals omega
theorem roundT_self {n : Int} (h0 : 0 ≤ n) (h1 : n ≤ 65536) : roundT (roundT n) = roundT n := by
  by_cases hg : 1024 < n
  · rw [roundT_great hg h1, roundT_great (by omega) (by omega)]; omega
  · have hT : roundT n = 16 ∨ roundT n = 32 ∨ roundT n = 48 ∨ roundT n = 64 ∨ roundT n = 80 ∨ roundT n = 96 ∨ roundT n = 112 ∨ roundT n = 128 ∨ roundT n = 192 ∨ roundT n = 256 ∨ roundT n = 384 ∨ roundT n = 512 ∨ roundT n = 768 ∨ roundT n = 1024 := by
      unfold roundT
      repeat' split
      all_goals omega
    rcases hT with h | h | h | h | h | h | h | h | h | h | h | h | h | h <;> rw [h] <;> decide
theorem roundT_waste {n : Int} (h0 : 0 < n) (h1 : n ≤ 1024) : roundT n - n < 16 ∨ 2 * (roundT n - n) < n := by
  unfold roundT
  repeat' split
  all_goals omega
theorem classT_at {n : Int} (h0 : 0 ≤ n) (h1 : n ≤ 65536) : (classT n = 0 ∧ n ≤ 16 ∧ roundT n = 16) ∨ (classT n = 1 ∧ 16 < n ∧ n ≤ 32 ∧ roundT n = 32) ∨ (classT n = 2 ∧ 32 < n ∧ n ≤ 48 ∧ roundT n = 48) ∨ (classT n = 3 ∧ 48 < n ∧ n ≤ 64 ∧ roundT n = 64) ∨ (classT n = 4 ∧ 64 < n ∧ n ≤ 80 ∧ roundT n = 80) ∨ (classT n = 5 ∧ 80 < n ∧ n ≤ 96 ∧ roundT n = 96) ∨ (classT n = 6 ∧ 96 < n ∧ n ≤ 112 ∧ roundT n = 112) ∨ (classT n = 7 ∧ 112 < n ∧ n ≤ 128 ∧ roundT n = 128) ∨ (classT n = 8 ∧ 128 < n ∧ n ≤ 192 ∧ roundT n = 192) ∨ (classT n = 9 ∧ 192 < n ∧ n ≤ 256 ∧ roundT n = 256) ∨ (classT n = 10 ∧ 256 < n ∧ n ≤ 384 ∧ roundT n = 384) ∨ (classT n = 11 ∧ 384 < n ∧ n ≤ 512 ∧ roundT n = 512) ∨ (classT n = 12 ∧ 512 < n ∧ n ≤ 768 ∧ roundT n = 768) ∨ (classT n = 13 ∧ 768 < n ∧ n ≤ 1024 ∧ roundT n = 1024) ∨ (classT n = 14 ∧ 1024 < n ∧ roundT n = (n + 255) / 256 * 256) := by
  have h0' : ¬ n < 0 := by omega
  have h1' : ¬ 65536 < n := by omega
  by_cases k0 : n ≤ 16
  · have e1 : classT n = 0 := by unfold classT; rw [if_neg h0', if_neg h1', if_pos k0]
    have e2 : roundT n = 16 := by unfold roundT; rw [if_neg h0', if_neg h1', if_pos k0]
    exact .inl ⟨e1, k0, e2⟩
  by_cases k1 : n ≤ 32
  · have e1 : classT n = 1 := by unfold classT; rw [if_neg h0', if_neg h1', if_neg k0, if_pos k1]
    have e2 : roundT n = 32 := by unfold roundT; rw [if_neg h0', if_neg h1', if_neg k0, if_pos k1]
    exact .inr (.inl ⟨e1, by omega, k1, e2⟩)
  by_cases k2 : n ≤ 48
  · have e1 : classT n = 2 := by unfold classT; rw [if_neg h0', if_neg h1', if_neg k0, if_neg k1, if_pos k2]
    have e2 : roundT n = 48 := by unfold roundT; rw [if_neg h0', if_neg h1', if_neg k0, if_neg k1, if_pos k2]
    exact .inr (.inr (.inl ⟨e1, by omega, k2, e2⟩))
  by_cases k3 : n ≤ 64
  · have e1 : classT n = 3 := by unfold classT; rw [if_neg h0', if_neg h1', if_neg k0, if_neg k1, if_neg k2, if_pos k3]
    have e2 : roundT n = 64 := by unfold roundT; rw [if_neg h0', if_neg h1', if_neg k0, if_neg k1, if_neg k2, if_pos k3]
    exact .inr (.inr (.inr (.inl ⟨e1, by omega, k3, e2⟩)))
  by_cases k4 : n ≤ 80
  · have e1 : classT n = 4 := by unfold classT; rw [if_neg h0', if_neg h1', if_neg k0, if_neg k1, if_neg k2, if_neg k3, if_pos k4]
    have e2 : roundT n = 80 := by unfold roundT; rw [if_neg h0', if_neg h1', if_neg k0, if_neg k1, if_neg k2, if_neg k3, if_pos k4]
    exact .inr (.inr (.inr (.inr (.inl ⟨e1, by omega, k4, e2⟩))))
  by_cases k5 : n ≤ 96
  · have e1 : classT n = 5 := by unfold classT; rw [if_neg h0', if_neg h1', if_neg k0, if_neg k1, if_neg k2, if_neg k3, if_neg k4, if_pos k5]
    have e2 : roundT n = 96 := by unfold roundT; rw [if_neg h0', if_neg h1', if_neg k0, if_neg k1, if_neg k2, if_neg k3, if_neg k4, if_pos k5]
    exact .inr (.inr (.inr (.inr (.inr (.inl ⟨e1, by omega, k5, e2⟩)))))
  by_cases k6 : n ≤ 112
  · have e1 : classT n = 6 := by unfold classT; rw [if_neg h0', if_neg h1', if_neg k0, if_neg k1, if_neg k2, if_neg k3, if_neg k4, if_neg k5, if_pos k6]
    have e2 : roundT n = 112 := by unfold roundT; rw [if_neg h0', if_neg h1', if_neg k0, if_neg k1, if_neg k2, if_neg k3, if_neg k4, if_neg k5, if_pos k6]
    exact .inr (.inr (.inr (.inr (.inr (.inr (.inl ⟨e1, by omega, k6, e2⟩))))))
  by_cases k7 : n ≤ 128
  · have e1 : classT n = 7 := by unfold classT; rw [if_neg h0', if_neg h1', if_neg k0, if_neg k1, if_neg k2, if_neg k3, if_neg k4, if_neg k5, if_neg k6, if_pos k7]
    have e2 : roundT n = 128 := by unfold roundT; rw [if_neg h0', if_neg h1', if_neg k0, if_neg k1, if_neg k2, if_neg k3, if_neg k4, if_neg k5, if_neg k6, if_pos k7]
    exact .inr (.inr (.inr (.inr (.inr (.inr (.inr (.inl ⟨e1, by omega, k7, e2⟩)))))))
  by_cases k8 : n ≤ 192
  · have e1 : classT n = 8 := by unfold classT; rw [if_neg h0', if_neg h1', if_neg k0, if_neg k1, if_neg k2, if_neg k3, if_neg k4, if_neg k5, if_neg k6, if_neg k7, if_pos k8]
    have e2 : roundT n = 192 := by unfold roundT; rw [if_neg h0', if_neg h1', if_neg k0, if_neg k1, if_neg k2, if_neg k3, if_neg k4, if_neg k5, if_neg k6, if_neg k7, if_pos k8]
    exact .inr (.inr (.inr (.inr (.inr (.inr (.inr (.inr (.inl ⟨e1, by omega, k8, e2⟩))))))))
  by_cases k9 : n ≤ 256
  · have e1 : classT n = 9 := by unfold classT; rw [if_neg h0', if_neg h1', if_neg k0, if_neg k1, if_neg k2, if_neg k3, if_neg k4, if_neg k5, if_neg k6, if_neg k7, if_neg k8, if_pos k9]
    have e2 : roundT n = 256 := by unfold roundT; rw [if_neg h0', if_neg h1', if_neg k0, if_neg k1, if_neg k2, if_neg k3, if_neg k4, if_neg k5, if_neg k6, if_neg k7, if_neg k8, if_pos k9]
    exact .inr (.inr (.inr (.inr (.inr (.inr (.inr (.inr (.inr (.inl ⟨e1, by omega, k9, e2⟩)))))))))
  by_cases k10 : n ≤ 384
  · have e1 : classT n = 10 := by unfold classT; rw [if_neg h0', if_neg h1', if_neg k0, if_neg k1, if_neg k2, if_neg k3, if_neg k4, if_neg k5, if_neg k6, if_neg k7, if_neg k8, if_neg k9, if_pos k10]
    have e2 : roundT n = 384 := by unfold roundT; rw [if_neg h0', if_neg h1', if_neg k0, if_neg k1, if_neg k2, if_neg k3, if_neg k4, if_neg k5, if_neg k6, if_neg k7, if_neg k8, if_neg k9, if_pos k10]
    exact .inr (.inr (.inr (.inr (.inr (.inr (.inr (.inr (.inr (.inr (.inl ⟨e1, by omega, k10, e2⟩))))))))))
  by_cases k11 : n ≤ 512
  · have e1 : classT n = 11 := by unfold classT; rw [if_neg h0', if_neg h1', if_neg k0, if_neg k1, if_neg k2, if_neg k3, if_neg k4, if_neg k5, if_neg k6, if_neg k7, if_neg k8, if_neg k9, if_neg k10, if_pos k11]
    have e2 : roundT n = 512 := by unfold roundT; rw [if_neg h0', if_neg h1', if_neg k0, if_neg k1, if_neg k2, if_neg k3, if_neg k4, if_neg k5, if_neg k6, if_neg k7, if_neg k8, if_neg k9, if_neg k10, if_pos k11]
    exact .inr (.inr (.inr (.inr (.inr (.inr (.inr (.inr (.inr (.inr (.inr (.inl ⟨e1, by omega, k11, e2⟩)))))))))))
  by_cases k12 : n ≤ 768
  · have e1 : classT n = 12 := by unfold classT; rw [if_neg h0', if_neg h1', if_neg k0, if_neg k1, if_neg k2, if_neg k3, if_neg k4, if_neg k5, if_neg k6, if_neg k7, if_neg k8, if_neg k9, if_neg k10, if_neg k11, if_pos k12]
    have e2 : roundT n = 768 := by unfold roundT; rw [if_neg h0', if_neg h1', if_neg k0, if_neg k1, if_neg k2, if_neg k3, if_neg k4, if_neg k5, if_neg k6, if_neg k7, if_neg k8, if_neg k9, if_neg k10, if_neg k11, if_pos k12]
    exact .inr (.inr (.inr (.inr (.inr (.inr (.inr (.inr (.inr (.inr (.inr (.inr (.inl ⟨e1, by omega, k12, e2⟩))))))))))))
  by_cases k13 : n ≤ 1024
  · have e1 : classT n = 13 := by unfold classT; rw [if_neg h0', if_neg h1', if_neg k0, if_neg k1, if_neg k2, if_neg k3, if_neg k4, if_neg k5, if_neg k6, if_neg k7, if_neg k8, if_neg k9, if_neg k10, if_neg k11, if_neg k12, if_pos k13]
    have e2 : roundT n = 1024 := by unfold roundT; rw [if_neg h0', if_neg h1', if_neg k0, if_neg k1, if_neg k2, if_neg k3, if_neg k4, if_neg k5, if_neg k6, if_neg k7, if_neg k8, if_neg k9, if_neg k10, if_neg k11, if_neg k12, if_pos k13]
    exact .inr (.inr (.inr (.inr (.inr (.inr (.inr (.inr (.inr (.inr (.inr (.inr (.inr (.inl ⟨e1, by omega, k13, e2⟩)))))))))))))
  have e1 : classT n = 14 := by unfold classT; rw [if_neg h0', if_neg h1', if_neg k0, if_neg k1, if_neg k2, if_neg k3, if_neg k4, if_neg k5, if_neg k6, if_neg k7, if_neg k8, if_neg k9, if_neg k10, if_neg k11, if_neg k12, if_neg k13]
  have e2 : roundT n = (n + 255) / 256 * 256 := by unfold roundT; rw [if_neg h0', if_neg h1', if_neg k0, if_neg k1, if_neg k2, if_neg k3, if_neg k4, if_neg k5, if_neg k6, if_neg k7, if_neg k8, if_neg k9, if_neg k10, if_neg k11, if_neg k12, if_neg k13]
  exact .inr (.inr (.inr (.inr (.inr (.inr (.inr (.inr (.inr (.inr (.inr (.inr (.inr (.inr (⟨e1, by omega, e2⟩))))))))))))))
theorem roundB_yes {n : Int} (h0 : 0 ≤ n) (h1 : n ≤ 65536) : roundB n = true := by unfold roundB; exact decide_eq_true ⟨h0, h1⟩
theorem roundB_no {n : Int} (h1 : 65536 < n) : roundB n = false := by unfold roundB; exact decide_eq_false (by omega)
set_option maxHeartbeats 4000000 in
theorem rises {n m : Int} (h0 : 0 ≤ n) (h : n ≤ m) (h1 : m ≤ 65536) : roundT n ≤ roundT m ∧ classT n ≤ classT m := by
  have a := classT_at h0 (by omega)
  have b := classT_at (show 0 ≤ m by omega) h1
  rcases a with a | a | a | a | a | a | a | a | a | a | a | a | a | a | a <;> omega
end Go.Proofs.YtoeiemeffiiidaaDoor

namespace Go.Proofs.YtoeiemeffiiidaaDoor
set_option maxRecDepth 100000
set_option linter.unusedSimpArgs false
set_option linter.unusedVariables false
open Go.RowKit

end Go.Proofs.YtoeiemeffiiidaaDoor
