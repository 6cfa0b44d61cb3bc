/- Layer 20: what the laws say of numbers. -/
import Derived.Test.YtemeckdjkjnieaaHead20
namespace Go.Proofs.Ytemeckdjkjnieaa
set_option linter.unusedSimpArgs false
set_option linter.unusedVariables false
open Go.RowKit


theorem wfu8 {n : Int} (h : (Lit.int .u8 n).wf = true) : 0 ≤ n ∧ n ≤ 255 := by
  simpa [Lit.wf, IntKind.min, IntKind.max, IntKind.signed, IntKind.bits] using h
theorem wfu32 {n : Int} (h : (Lit.int .u32 n).wf = true) : 0 ≤ n ∧ n ≤ 4294967295 := by
  simpa [Lit.wf, IntKind.min, IntKind.max, IntKind.signed, IntKind.bits] using h
theorem wfi32 {n : Int} (h : (Lit.int .i32 n).wf = true) : -2147483648 ≤ n ∧ n ≤ 2147483647 := by
  simpa [Lit.wf, IntKind.min, IntKind.max, IntKind.signed, IntKind.bits] using h
theorem wfi8 {n : Int} (h : (Lit.int .i8 n).wf = true) : -128 ≤ n ∧ n ≤ 127 := by
  simpa [Lit.wf, IntKind.min, IntKind.max, IntKind.signed, IntKind.bits] using h
theorem doV_bd (op a b : Int) : 0 ≤ doV op a b ∧ doV op a b ≤ 4294967295 := by
  unfold doV
  have ha := m32_bd a
  have hb := m32_bd b
  split
  · exact m32_bd _
  split
  · exact m32_bd _
  split
  · exact m32_bd _
  split
  · exact quo_bd ha.1 ha.2 hb.1
  split
  · exact lt32_bd _ _
  split
  · exact eq32_bd _ _
  · omega
theorem doV_add (a b : Int) : doV 3 a b = (a + b) % 4294967296 := by simp [doV, m32]
theorem doV_sub (a b : Int) : doV 4 a b = (a - b) % 4294967296 := by simp [doV, m32, Int.sub_emod]
theorem doV_mul (a b : Int) : doV 5 a b = (a * b) % 4294967296 := by simp [doV, m32, Int.mul_emod]
theorem doV_div {a b : Int} (ha0 : 0 ≤ a) (ha : a ≤ 4294967295) (hb0 : 0 < b) (hb : b ≤ 4294967295) : doV 6 a b = a / b := by
  have hb' : ¬ b = 0 := by omega
  simp [doV, m32_of ha0 ha, m32_of (Int.le_of_lt hb0) hb, hb']
theorem doV_lt {a b : Int} (ha0 : 0 ≤ a) (ha : a ≤ 4294967295) (hb0 : 0 ≤ b) (hb : b ≤ 4294967295) : doV 7 a b = if a < b then 1 else 0 := by
  simp [doV, m32_of ha0 ha, m32_of hb0 hb, lt32]
theorem doV_eq {a b : Int} (ha0 : 0 ≤ a) (ha : a ≤ 4294967295) (hb0 : 0 ≤ b) (hb : b ≤ 4294967295) : doV 8 a b = if a = b then 1 else 0 := by
  simp [doV, m32_of ha0 ha, m32_of hb0 hb, eq32]

set_option maxHeartbeats 400000 in
theorem ldo (op a b : Int) (w : World) (a0 : 0 ≤ a) (a1 : a ≤ 4294967295) (b0 : 0 ≤ b) (b1 : b ≤ 4294967295) :
    Calls Try.prog 18 #[.int .i64 op, .int .u32 a, .int .u32 b] w fun e w' => e = .returned (.int .u32 (doV op a b)) ∧ Ext w w' := by
  have hbd := doV_bd op a b
  have hm : doV op a b % 4294967296 = doV op a b := by omega
  have HM := hid hm
  clear hm
  go_enter Try.func18, Try.ntmps18
  go_wp2_with (go_at_call 10; refine (do_ _ _ _ _).mono ?_; rintro e w1 ⟨rfl, hy⟩; obtain ⟨d, rfl⟩ := hy.grown; clear hy)
  go_ret
  refine ⟨?_, (by repeat (first | (with_reducible exact Ext.refl _) | (with_reducible refine Ext.undrew ?_) | (with_reducible refine Ext.grow ?_ _) | (with_reducible refine Ext.drew ?_) | (with_reducible refine Ext.drewN ?_ _) | (with_reducible refine Ext.alloc ?_ _) | (with_reducible assumption) | ((with_reducible refine Ext.setCell ?_ ?_ _); rotate_left; (first | exact Nat.le_refl _ | ((try dsimp only); (try simp only [World.size_alloc, grow_size, World.size_setCell]); omega)))))⟩
  first | rfl | (simp; done) | (simp [HM.out]; done)


end Go.Proofs.Ytemeckdjkjnieaa
