/- Layer 7: Dirty, Clean. -/
import Derived.Test.YtgpeabbbeidhpaaTagF
import Derived.ChangeKeysEq
namespace Go.Proofs.Ytgpeabbbeidhpaa
set_option linter.unusedSimpArgs false
set_option linter.unusedVariables false
open Go.RowKit

theorem info_bool : (Try.prog.info? 4).map (fun i => (i.zero, i.size, i.bytes)) = some (some (.bool false), 1, 1) := by kernel_rfl
theorem info_int : (Try.prog.info? 3).map (fun i => (i.zero, i.size, i.bytes)) = some (some (.int .i64 0), 1, 8) := by kernel_rfl
theorem cells_bool : Try.prog.cellsOf 4 = 1 := by kernel_rfl
/-- Is one of a page's granules tagged? -/
def anyB (b : Nat → Bool) : Bool := (List.range 16).any b
theorem eqIn_tags (b : Nat → Bool) (w : World) : (Op.equalIn 10000 63 (.agg #[.bool (b 0), .bool (b 1), .bool (b 2), .bool (b 3), .bool (b 4), .bool (b 5), .bool (b 6), .bool (b 7), .bool (b 8), .bool (b 9), .bool (b 10), .bool (b 11), .bool (b 12), .bool (b 13), .bool (b 14), .bool (b 15)]) (.agg #[.bool false, .bool false, .bool false, .bool false, .bool false, .bool false, .bool false, .bool false, .bool false, .bool false, .bool false, .bool false, .bool false, .bool false, .bool false, .bool false])).run Try.prog w = .ok (!(anyB b)) w := by
  obtain ⟨i, hi, _⟩ := info_parts info_bool
  rw [run_equalIn_array w 9999 _ _ Try.underlying63 hi, cells_bool]
  simp [Op.eqItems, List.range_succ, part, run_equalIn_bool, Try.underlying4, Result.andThen, cells_bool, anyB]
  generalize b 0 = b0
  generalize b 1 = b1
  generalize b 2 = b2
  generalize b 3 = b3
  generalize b 4 = b4
  generalize b 5 = b5
  generalize b 6 = b6
  generalize b 7 = b7
  generalize b 8 = b8
  generalize b 9 = b9
  generalize b 10 = b10
  generalize b 11 = b11
  generalize b 12 = b12
  generalize b 13 = b13
  generalize b 14 = b14
  generalize b 15 = b15
  cases b0 <;> simp
  cases b1 <;> simp
  cases b2 <;> simp
  cases b3 <;> simp
  cases b4 <;> simp
  cases b5 <;> simp
  cases b6 <;> simp
  cases b7 <;> simp
  cases b8 <;> simp
  cases b9 <;> simp
  cases b10 <;> simp
  cases b11 <;> simp
  cases b12 <;> simp
  cases b13 <;> simp
  cases b14 <;> simp
  cases b15 <;> simp
attribute [local go_sem] eqIn_tags
set_option maxRecDepth 100000 in
set_option maxHeartbeats 4000000 in
theorem ttagged_ (g x : Nat) (b : Nat → Bool) (w : World) (hb : ∀ j, j < 16 → w.cell? ⟨g, x + 256 + j, none⟩ = some (.bool (b j))) (hg : g < w.heap.size) : Calls Try.prog 40 #[.pointer (some ⟨g, x, none⟩)] w fun e w' => e = .returned (.bool (anyB b)) ∧ w = w' := by
  have HR : Hid (w.rangeAt g (x + 256) [.bool (b 0), .bool (b 1), .bool (b 2), .bool (b 3), .bool (b 4), .bool (b 5), .bool (b 6), .bool (b 7), .bool (b 8), .bool (b 9), .bool (b 10), .bool (b 11), .bool (b 12), .bool (b 13), .bool (b 14), .bool (b 15)]) := hid (fun j v hj => by
    have hlt : j < 16 := by simpa using (List.getElem?_eq_some_iff.1 hj).1
    rw [hb j hlt, ← hj]
    rcases (show j = 0 ∨ j = 1 ∨ j = 2 ∨ j = 3 ∨ j = 4 ∨ j = 5 ∨ j = 6 ∨ j = 7 ∨ j = 8 ∨ j = 9 ∨ j = 10 ∨ j = 11 ∨ j = 12 ∨ j = 13 ∨ j = 14 ∨ j = 15 by omega) with rfl | rfl | rfl | rfl | rfl | rfl | rfl | rfl | rfl | rfl | rfl | rfl | rfl | rfl | rfl | rfl <;> rfl)
  clear hb
  go_enter Try.func40, Try.ntmps40
  go_wp2_with (with_reducible refine wpList_load_mid rfl 63 (.tmp 5) rfl g (x + 256) rfl [.bool (b 0), .bool (b 1), .bool (b 2), .bool (b 3), .bool (b 4), .bool (b 5), .bool (b 6), .bool (b 7), .bool (b 8), .bool (b 9), .bool (b 10), .bool (b 11), .bool (b 12), .bool (b 13), .bool (b 14), .bool (b 15)] _ (HR.out) Try.underlying63 rfl (by kernel_rfl) ?_)
  go_ret
  exact ⟨by simp, rfl⟩

end Go.Proofs.Ytgpeabbbeidhpaa
