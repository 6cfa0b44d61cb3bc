/- Layer 20: bytes of numbers. -/
import Derived.Test.YtemeckdjkjnieaaAluA
import Derived.Laws.BytesString
import Derived.Laws.Cells
namespace Go.Proofs.Ytemeckdjkjnieaa
set_option linter.unusedSimpArgs false
set_option linter.unusedVariables false
open Go.RowKit


def strOf (ns : List Int) : ByteArray := ns.foldl (fun r n => r.push (UInt8.ofNat n.toNat)) ByteArray.empty
theorem run_str {P : Program} (w : World) (src dst e : TypeId) (hs : P.underlying src = some (.slice e)) (he : P.underlying e = some (.int .u8)) (hd : P.underlying dst = some .string) (b o c : Nat) (ns : List Int)
    (h : ∀ j (hj : j < ns.length), w.cell? ⟨b, o + j, none⟩ = some (.int .u8 ns[j])) : (convert src dst (.slice (some ⟨b, o, none⟩) ns.length c)).run P w = .ok (.string (strOf ns)) w := by
  rw [run_convert_bytes_string w src dst e _ _ _ hs he hd]
  refine run_bytesToString w ⟨b, o, none⟩ ns.length c ns ?_
  have := run_loadCells_list (P := P) (w := w) ⟨b, o, none⟩ (ns.map (Value.int .u8)) (fun j v hv => by
    rw [Addr.add_lit]
    rw [List.getElem?_map] at hv
    by_cases hj : j < ns.length
    · rw [List.getElem?_eq_getElem hj] at hv
      rw [h j hj]
      exact hv
    · simp [hj] at hv)
  simpa using this
theorem str_new1 (w : World) (g c : Nat) (a0 : Int) (hg : g = w.heap.size) : (convert 22 9 (.slice (some ⟨g, 0, none⟩) 1 c)).run Try.prog (w.alloc (.cells #[.int .u8 a0] 5)) = .ok (.string (strOf [a0])) (w.alloc (.cells #[.int .u8 a0] 5)) := by
  subst hg
  refine run_str _ 22 9 5 Try.underlying22 Try.underlying5 Try.underlying9 w.heap.size 0 c [a0] (fun j hj => ?_)
  match j, hj with
  | 0, _ => simp [go_sem]
theorem str_new2 (w : World) (g c : Nat) (a0 a1 : Int) (hg : g = w.heap.size) : (convert 22 9 (.slice (some ⟨g, 0, none⟩) 2 c)).run Try.prog (w.alloc (.cells #[.int .u8 a0, .int .u8 a1] 5)) = .ok (.string (strOf [a0, a1])) (w.alloc (.cells #[.int .u8 a0, .int .u8 a1] 5)) := by
  subst hg
  refine run_str _ 22 9 5 Try.underlying22 Try.underlying5 Try.underlying9 w.heap.size 0 c [a0, a1] (fun j hj => ?_)
  match j, hj with
  | 0, _ => simp [go_sem]
  | 1, _ => simp [go_sem]
theorem str_new3 (w : World) (g c : Nat) (a0 a1 a2 : Int) (hg : g = w.heap.size) : (convert 22 9 (.slice (some ⟨g, 0, none⟩) 3 c)).run Try.prog (w.alloc (.cells #[.int .u8 a0, .int .u8 a1, .int .u8 a2] 5)) = .ok (.string (strOf [a0, a1, a2])) (w.alloc (.cells #[.int .u8 a0, .int .u8 a1, .int .u8 a2] 5)) := by
  subst hg
  refine run_str _ 22 9 5 Try.underlying22 Try.underlying5 Try.underlying9 w.heap.size 0 c [a0, a1, a2] (fun j hj => ?_)
  match j, hj with
  | 0, _ => simp [go_sem]
  | 1, _ => simp [go_sem]
  | 2, _ => simp [go_sem]
theorem str_new4 (w : World) (g c : Nat) (a0 a1 a2 a3 : Int) (hg : g = w.heap.size) : (convert 22 9 (.slice (some ⟨g, 0, none⟩) 4 c)).run Try.prog (w.alloc (.cells #[.int .u8 a0, .int .u8 a1, .int .u8 a2, .int .u8 a3] 5)) = .ok (.string (strOf [a0, a1, a2, a3])) (w.alloc (.cells #[.int .u8 a0, .int .u8 a1, .int .u8 a2, .int .u8 a3] 5)) := by
  subst hg
  refine run_str _ 22 9 5 Try.underlying22 Try.underlying5 Try.underlying9 w.heap.size 0 c [a0, a1, a2, a3] (fun j hj => ?_)
  match j, hj with
  | 0, _ => simp [go_sem]
  | 1, _ => simp [go_sem]
  | 2, _ => simp [go_sem]
  | 3, _ => simp [go_sem]
set_option maxHeartbeats 400000 in
theorem rmod (n : Int) (w : World) (h0 : -9223372036854775808 ≤ n) (h1 : n ≤ 9223372036854775807) :
    Calls Try.prog 20 #[.int .i64 n] w fun e w' => e = .returned (.int .i64 (m32 n)) ∧ w = w' := by
  unfold m32
  have ht : n < 0 → n.tmod 4294967296 = -((-n) % 4294967296) := fun h => by
    rw [← Int.tmod_eq_emod_of_nonneg (show 0 ≤ -n by omega), Int.neg_tmod, Int.neg_neg]
  have hbt : n < 0 → -4294967295 ≤ n.tmod 4294967296 ∧ n.tmod 4294967296 ≤ 0 := fun h => by rw [ht h]; omega
  have HT := hid ht
  have HB := hid hbt
  clear ht hbt
  by_cases hn : 0 ≤ n
  · go_enter Try.func20, Try.ntmps20
    go_wp2
    all_goals go_ret
    all_goals exact ⟨rfl, rfl⟩
  · obtain ⟨hb1, hb2⟩ := HB.out (by omega)
    go_enter Try.func20, Try.ntmps20
    go_wp2
    all_goals go_ret
    all_goals (have ht := HT.out (by omega); clear HT)
    all_goals refine ⟨?_, rfl⟩
    all_goals (simp <;> omega)

set_option maxRecDepth 100000 in
set_option maxHeartbeats 2000000 in
theorem bytes1 (n : Int) (w : World) (h0 : -9223372036854775808 ≤ n) (h1 : n ≤ 9223372036854775807) :
    Calls Try.prog 14 #[.int .i64 n, .int .i64 1] w fun e w' => e = .returned (.slice (some ⟨w.heap.size, 0, none⟩) 1 1) ∧ w' = w.alloc (.cells #[.int .u8 (n % 256)] 5) := by
  have hmk : ∀ w, (Instr.makeSlice 22 (.int .i64 1) (.int .i64 1)).run Try.prog w = .ok (.slice (some ⟨w.heap.size, 0, none⟩) 1 1) (w.alloc (.cells #[.int .u8 0] 5)) := fun _ => by kernel_rfl
  go_enter Try.func14, Try.ntmps14
  go_wp2
  refine wp_loop_rounds 2 ?_
  rw [rounds_succ]
  go_wp2
  rw [rounds_succ]
  go_wp2
  go_ret
  exact ⟨rfl, rfl⟩

set_option maxRecDepth 100000 in
set_option maxHeartbeats 2000000 in
theorem bytes2 (n : Int) (w : World) (h0 : -9223372036854775808 ≤ n) (h1 : n ≤ 9223372036854775807) :
    Calls Try.prog 14 #[.int .i64 n, .int .i64 2] w fun e w' => e = .returned (.slice (some ⟨w.heap.size, 0, none⟩) 2 2) ∧ w' = w.alloc (.cells #[.int .u8 (n / 256 % 256), .int .u8 (n % 256)] 5) := by
  have hmk : ∀ w, (Instr.makeSlice 22 (.int .i64 2) (.int .i64 2)).run Try.prog w = .ok (.slice (some ⟨w.heap.size, 0, none⟩) 2 2) (w.alloc (.cells #[.int .u8 0, .int .u8 0] 5)) := fun _ => by kernel_rfl
  go_enter Try.func14, Try.ntmps14
  go_wp2
  refine wp_loop_rounds 3 ?_
  rw [rounds_succ]
  go_wp2
  rw [rounds_succ]
  go_wp2
  rw [rounds_succ]
  go_wp2
  go_ret
  exact ⟨rfl, rfl⟩

set_option maxRecDepth 100000 in
set_option maxHeartbeats 2000000 in
theorem bytes3 (n : Int) (w : World) (h0 : -9223372036854775808 ≤ n) (h1 : n ≤ 9223372036854775807) :
    Calls Try.prog 14 #[.int .i64 n, .int .i64 3] w fun e w' => e = .returned (.slice (some ⟨w.heap.size, 0, none⟩) 3 3) ∧ w' = w.alloc (.cells #[.int .u8 (n / 65536 % 256), .int .u8 (n / 256 % 256), .int .u8 (n % 256)] 5) := by
  have hmk : ∀ w, (Instr.makeSlice 22 (.int .i64 3) (.int .i64 3)).run Try.prog w = .ok (.slice (some ⟨w.heap.size, 0, none⟩) 3 3) (w.alloc (.cells #[.int .u8 0, .int .u8 0, .int .u8 0] 5)) := fun _ => by kernel_rfl
  go_enter Try.func14, Try.ntmps14
  go_wp2
  refine wp_loop_rounds 4 ?_
  rw [rounds_succ]
  go_wp2
  rw [rounds_succ]
  go_wp2
  rw [rounds_succ]
  go_wp2
  rw [rounds_succ]
  go_wp2
  go_ret
  exact ⟨rfl, rfl⟩

set_option maxRecDepth 100000 in
set_option maxHeartbeats 2000000 in
theorem bytes4 (n : Int) (w : World) (h0 : -9223372036854775808 ≤ n) (h1 : n ≤ 9223372036854775807) :
    Calls Try.prog 14 #[.int .i64 n, .int .i64 4] w fun e w' => e = .returned (.slice (some ⟨w.heap.size, 0, none⟩) 4 4) ∧ w' = w.alloc (.cells #[.int .u8 (n / 16777216 % 256), .int .u8 (n / 65536 % 256), .int .u8 (n / 256 % 256), .int .u8 (n % 256)] 5) := by
  have hmk : ∀ w, (Instr.makeSlice 22 (.int .i64 4) (.int .i64 4)).run Try.prog w = .ok (.slice (some ⟨w.heap.size, 0, none⟩) 4 4) (w.alloc (.cells #[.int .u8 0, .int .u8 0, .int .u8 0, .int .u8 0] 5)) := fun _ => by kernel_rfl
  go_enter Try.func14, Try.ntmps14
  go_wp2
  refine wp_loop_rounds 5 ?_
  rw [rounds_succ]
  go_wp2
  rw [rounds_succ]
  go_wp2
  rw [rounds_succ]
  go_wp2
  rw [rounds_succ]
  go_wp2
  rw [rounds_succ]
  go_wp2
  go_ret
  exact ⟨rfl, rfl⟩

set_option maxHeartbeats 400000 in
theorem bytes0 (n k : Int) (w : World) (hk : k < 1 ∨ 4 < k) :
    Calls Try.prog 14 #[.int .i64 n, .int .i64 k] w fun e w' => e = .returned (.slice none 0 0) ∧ w = w' := by
  rcases hk with hk | hk
  · go_enter Try.func14, Try.ntmps14
    go_wp2
    go_ret
    exact ⟨rfl, rfl⟩
  · have hk' : ¬ k < 1 := by omega
    go_enter Try.func14, Try.ntmps14
    go_wp2
    go_ret
    exact ⟨rfl, rfl⟩

set_option maxHeartbeats 400000 in
theorem rbytes0 (n k : Int) (w : World) (hk : k < 1 ∨ 4 < k) :
    Calls Try.prog 15 #[.int .i64 n, .int .i64 k] w fun e w' => e = .returned (.slice none 0 0) ∧ w = w' := by
  rcases hk with hk | hk
  · go_enter Try.func15, Try.ntmps15
    go_wp2
    go_ret
    exact ⟨rfl, rfl⟩
  · have hk' : ¬ k < 1 := by omega
    go_enter Try.func15, Try.ntmps15
    go_wp2
    go_ret
    exact ⟨rfl, rfl⟩

set_option maxRecDepth 100000 in
set_option maxHeartbeats 2000000 in
theorem rbytes1 (n : Int) (w : World) (h0 : -9223372036854775808 ≤ n) (h1 : n ≤ 9223372036854775807) :
    Calls Try.prog 15 #[.int .i64 n, .int .i64 1] w fun e w' => e = .returned (.slice (some ⟨w.heap.size, 3, none⟩) 1 1) ∧ w' = w.alloc (.cells #[.int .u8 (n / 16777216 % 256), .int .u8 (n / 65536 % 256), .int .u8 (n / 256 % 256), .int .u8 (n % 256)] 5) := by
  have hm := m32_bd n
  go_enter Try.func15, Try.ntmps15
  go_wp2_with (go_at_call 20; refine (rmod _ _ (by omega) (by omega)).mono ?_; rintro e w1 ⟨rfl, rfl⟩)
  go_ret
  refine ⟨rfl, ?_⟩
  congr 3
  unfold m32
  simp only [List.cons.injEq, Value.int.injEq, true_and, and_true]
  omega

set_option maxRecDepth 100000 in
set_option maxHeartbeats 2000000 in
theorem rbytes2 (n : Int) (w : World) (h0 : -9223372036854775808 ≤ n) (h1 : n ≤ 9223372036854775807) :
    Calls Try.prog 15 #[.int .i64 n, .int .i64 2] w fun e w' => e = .returned (.slice (some ⟨w.heap.size, 2, none⟩) 2 2) ∧ w' = w.alloc (.cells #[.int .u8 (n / 16777216 % 256), .int .u8 (n / 65536 % 256), .int .u8 (n / 256 % 256), .int .u8 (n % 256)] 5) := by
  have hm := m32_bd n
  go_enter Try.func15, Try.ntmps15
  go_wp2_with (go_at_call 20; refine (rmod _ _ (by omega) (by omega)).mono ?_; rintro e w1 ⟨rfl, rfl⟩)
  go_ret
  refine ⟨rfl, ?_⟩
  congr 3
  unfold m32
  simp only [List.cons.injEq, Value.int.injEq, true_and, and_true]
  omega

set_option maxRecDepth 100000 in
set_option maxHeartbeats 2000000 in
theorem rbytes3 (n : Int) (w : World) (h0 : -9223372036854775808 ≤ n) (h1 : n ≤ 9223372036854775807) :
    Calls Try.prog 15 #[.int .i64 n, .int .i64 3] w fun e w' => e = .returned (.slice (some ⟨w.heap.size, 1, none⟩) 3 3) ∧ w' = w.alloc (.cells #[.int .u8 (n / 16777216 % 256), .int .u8 (n / 65536 % 256), .int .u8 (n / 256 % 256), .int .u8 (n % 256)] 5) := by
  have hm := m32_bd n
  go_enter Try.func15, Try.ntmps15
  go_wp2_with (go_at_call 20; refine (rmod _ _ (by omega) (by omega)).mono ?_; rintro e w1 ⟨rfl, rfl⟩)
  go_ret
  refine ⟨rfl, ?_⟩
  congr 3
  unfold m32
  simp only [List.cons.injEq, Value.int.injEq, true_and, and_true]
  omega

set_option maxRecDepth 100000 in
set_option maxHeartbeats 2000000 in
theorem rbytes4 (n : Int) (w : World) (h0 : -9223372036854775808 ≤ n) (h1 : n ≤ 9223372036854775807) :
    Calls Try.prog 15 #[.int .i64 n, .int .i64 4] w fun e w' => e = .returned (.slice (some ⟨w.heap.size, 0, none⟩) 4 4) ∧ w' = w.alloc (.cells #[.int .u8 (n / 16777216 % 256), .int .u8 (n / 65536 % 256), .int .u8 (n / 256 % 256), .int .u8 (n % 256)] 5) := by
  have hm := m32_bd n
  go_enter Try.func15, Try.ntmps15
  go_wp2_with (go_at_call 20; refine (rmod _ _ (by omega) (by omega)).mono ?_; rintro e w1 ⟨rfl, rfl⟩)
  go_ret
  refine ⟨rfl, ?_⟩
  congr 3
  unfold m32
  simp only [List.cons.injEq, Value.int.injEq, true_and, and_true]
  omega

set_option maxRecDepth 100000 in
set_option maxHeartbeats 2000000 in
theorem number_head (b c : Nat) (w : World) (hk : 5 ≤ c) (hcc : c ≤ 9223372036854775807) (hc : w.cell? ⟨b, 1, none⟩ = some (.int .u8 0) ∧ w.cell? ⟨b, 2, none⟩ = some (.int .u8 0) ∧ w.cell? ⟨b, 3, none⟩ = some (.int .u8 1) ∧ w.cell? ⟨b, 4, none⟩ = some (.int .u8 2)) :
    Calls Try.prog 16 #[.slice (some ⟨b, 0, none⟩) 5 c] w fun e w' => e = .returned (.int .i64 258) ∧ w = w' := by
  obtain ⟨c0, c1, c2, c3⟩ := hc
  have q0 : bits .or .i64 0 0 = 0 := by decide
  have q1 : bits .or .i64 0 1 = 1 := by decide
  have q2 : bits .or .i64 256 2 = 258 := by decide
  go_enter Try.func16, Try.ntmps16
  go_wp2
  refine wp_loop_rounds 5 ?_
  rw [rounds_succ]
  go_wp2
  rw [rounds_succ]
  go_wp2
  rw [rounds_succ]
  go_wp2
  rw [rounds_succ]
  go_wp2
  rw [rounds_succ]
  go_wp2
  go_ret
  exact ⟨rfl, rfl⟩


end Go.Proofs.Ytemeckdjkjnieaa
