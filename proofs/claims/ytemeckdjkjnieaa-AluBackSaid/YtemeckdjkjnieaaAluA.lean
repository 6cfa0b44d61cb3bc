/- Layer 20: numbers. -/
import Derived.Test.YtemeckdjkjnieaaProg
import Derived.Test.YtemeckdjkjnieaaG
import Derived.Laws.EntriesVeiled
namespace Go.Proofs.Ytemeckdjkjnieaa
set_option linter.unusedSimpArgs false
set_option linter.unusedVariables false
open Go.RowKit


theorem wf64 {n : Int} (h : (Lit.int .i64 n).wf = true) : -9223372036854775808 ≤ n ∧ n ≤ 9223372036854775807 := by
  simpa [Lit.wf, IntKind.min, IntKind.max, IntKind.signed, IntKind.bits] using h
theorem enterOf {P : Program} {f : FuncId} {fn : Func} (hf : P.funcs[f]? = some fn) (hname : (fn.name == "runtime.NumGoroutine") = false) (hc : fn.body.isSome = true) (args : Array Value) (w : World) :
    Sem.run P (callFunc f args) w = .ok (.enter f args) w := by
  have h1 : ¬ fn.name = "runtime.NumGoroutine" := by simpa using hname
  obtain ⟨c, hb⟩ := Option.isSome_iff_exists.1 hc
  simp [callFunc, hf, h1, hb, Sem.run]
theorem grow_far {w w' : World} (hs : w.heap.size = w'.heap.size) {b o : Nat} (h : w.heap.size ≤ b) (d : Delta) : (grow w d).cell? ⟨b, o, none⟩ = (grow w' d).cell? ⟨b, o, none⟩ := by
  unfold World.cell?
  simp only [grow_heap, show ¬ b < w.heap.size by omega, show ¬ b < w'.heap.size by omega, hs, if_false]
def m32 (n : Int) : Int := n % 4294967296
theorem m32_bd (n : Int) : 0 ≤ m32 n ∧ m32 n ≤ 4294967295 := by unfold m32; omega
theorem m32_of {n : Int} (h0 : 0 ≤ n) (h1 : n ≤ 4294967295) : m32 n = n := by unfold m32; omega
theorem wrap32 (n : Int) : IntKind.u32.wrap n = m32 n := by simp [IntKind.wrap, IntKind.signed, IntKind.bits, m32]
def lt32 (a b : Int) : Int := if a < b then 1 else 0
def eq32 (a b : Int) : Int := if a = b then 1 else 0

set_option maxHeartbeats 400000 in
theorem opAdd (a b : Int) (w : World) :
    Calls Try.prog 22 #[.int .u32 a, .int .u32 b] w fun e w' => e = .returned (.int .u32 (m32 (a + b))) ∧ w = w' := by
  go_enter Try.func22, Try.ntmps22
  go_wp2
  go_ret
  exact ⟨by simp [m32], rfl⟩

set_option maxHeartbeats 400000 in
theorem opSub (a b : Int) (w : World) :
    Calls Try.prog 23 #[.int .u32 a, .int .u32 b] w fun e w' => e = .returned (.int .u32 (m32 (a - b))) ∧ w = w' := by
  go_enter Try.func23, Try.ntmps23
  go_wp2
  go_ret
  exact ⟨by simp [m32], rfl⟩

set_option maxHeartbeats 400000 in
theorem opMul (a b : Int) (w : World) :
    Calls Try.prog 24 #[.int .u32 a, .int .u32 b] w fun e w' => e = .returned (.int .u32 (m32 (a * b))) ∧ w = w' := by
  go_enter Try.func24, Try.ntmps24
  go_wp2
  go_ret
  exact ⟨by simp [m32], rfl⟩

set_option maxHeartbeats 400000 in
theorem opLt (a b : Int) (w : World) :
    Calls Try.prog 27 #[.int .u32 a, .int .u32 b] w fun e w' => e = .returned (.bool (decide (a < b))) ∧ w = w' := by
  go_enter Try.func27, Try.ntmps27
  go_wp2
  go_ret
  exact ⟨by simp, rfl⟩

set_option maxHeartbeats 400000 in
theorem opEq (a b : Int) (w : World) :
    Calls Try.prog 28 #[.int .u32 a, .int .u32 b] w fun e w' => e = .returned (.bool (a == b)) ∧ w = w' := by
  go_enter Try.func28, Try.ntmps28
  go_wp2
  go_ret
  exact ⟨by simp, rfl⟩

set_option maxHeartbeats 400000 in
theorem quotient (a b : Int) (w : World) (a0 : 0 ≤ a) (a1 : a ≤ 4294967295) (b0 : 0 ≤ b) (b1 : b ≤ 4294967295) :
    Calls Try.prog 25 #[.int .u32 a, .int .u32 b] w fun e w' => e = .returned (.tuple #[.int .u32 (if b = 0 then 0 else a / b), .int .i64 (if b = 0 then 201 else 0)]) ∧ w = w' := by
  by_cases hb : b = 0
  · subst hb
    go_enter Try.func25, Try.ntmps25
    go_wp2
    go_ret2
    exact ⟨by simp, rfl⟩
  · have hb1 : (b == 0) = false := by simpa using hb
    have hb2 : 0 < b := by omega
    go_enter Try.func25, Try.ntmps25
    go_wp2
    go_ret2
    refine ⟨?_, rfl⟩
    simp [hb]

set_option maxHeartbeats 400000 in
theorem truLt (a b : Int) (p : Nat) (w : World) (hc : w.cell? ⟨p, 0, none⟩ = some (.func (.func 27) #[] #[])) :
    Calls Try.prog 30 #[.int .u32 a, .int .u32 b, .pointer (some ⟨p, 0, none⟩)] w fun e w' => e = .returned (.int .u32 (lt32 a b)) ∧ w = w' := by
  have hfn : ∀ args w', Sem.run Try.prog (callFunc 27 args) w' = .ok (.enter 27 args) w' := fun args w' => enterOf Try.func27 (by kernel_rfl) (by kernel_rfl) _ _
  by_cases hlt : a < b
  · have hl : decide (a < b) = true := by simpa using hlt
    go_enter Try.func30, Try.ntmps30
    go_wp2_with (go_at_call 27; refine (opLt _ _ _).mono ?_; rintro e w1 ⟨rfl, rfl⟩)
    all_goals go_ret
    all_goals exact ⟨by simp [lt32, eq32, hlt], rfl⟩
  · have hl : decide (a < b) = false := by simpa using hlt
    go_enter Try.func30, Try.ntmps30
    go_wp2_with (go_at_call 27; refine (opLt _ _ _).mono ?_; rintro e w1 ⟨rfl, rfl⟩)
    all_goals go_ret
    all_goals exact ⟨by simp [lt32, eq32, hlt], rfl⟩

set_option maxHeartbeats 400000 in
theorem truEq (a b : Int) (p : Nat) (w : World) (hc : w.cell? ⟨p, 0, none⟩ = some (.func (.func 28) #[] #[])) :
    Calls Try.prog 30 #[.int .u32 a, .int .u32 b, .pointer (some ⟨p, 0, none⟩)] w fun e w' => e = .returned (.int .u32 (eq32 a b)) ∧ w = w' := by
  have hfn : ∀ args w', Sem.run Try.prog (callFunc 28 args) w' = .ok (.enter 28 args) w' := fun args w' => enterOf Try.func28 (by kernel_rfl) (by kernel_rfl) _ _
  by_cases hlt : a = b
  · have hl : (a == b) = true := by simpa using hlt
    go_enter Try.func30, Try.ntmps30
    go_wp2_with (go_at_call 28; refine (opEq _ _ _).mono ?_; rintro e w1 ⟨rfl, rfl⟩)
    all_goals go_ret
    all_goals exact ⟨by simp [lt32, eq32, hlt], rfl⟩
  · have hl : (a == b) = false := by simpa using hlt
    go_enter Try.func30, Try.ntmps30
    go_wp2_with (go_at_call 28; refine (opEq _ _ _).mono ?_; rintro e w1 ⟨rfl, rfl⟩)
    all_goals go_ret
    all_goals exact ⟨by simp [lt32, eq32, hlt], rfl⟩

set_option maxHeartbeats 400000 in
theorem finAdd (a b : Int) (p : Nat) (w : World) (hc : w.cell? ⟨p, 0, none⟩ = some (.func (.func 22) #[] #[])) :
    Calls Try.prog 29 #[.int .u32 a, .int .u32 b, .pointer (some ⟨p, 0, none⟩)] w fun e w' => e = .returned (.tuple #[.int .u32 (m32 (a + b)), .int .i64 0]) ∧ w = w' := by
  have hfn : ∀ args w', Sem.run Try.prog (callFunc 22 args) w' = .ok (.enter 22 args) w' := fun args w' => enterOf Try.func22 (by kernel_rfl) (by kernel_rfl) _ _
  go_enter Try.func29, Try.ntmps29
  go_wp2_with (go_at_call 22; refine (opAdd _ _ _).mono ?_; rintro e w1 ⟨rfl, rfl⟩)
  all_goals go_ret2
  all_goals exact ⟨by simp, rfl⟩

set_option maxHeartbeats 400000 in
theorem finSub (a b : Int) (p : Nat) (w : World) (hc : w.cell? ⟨p, 0, none⟩ = some (.func (.func 23) #[] #[])) :
    Calls Try.prog 29 #[.int .u32 a, .int .u32 b, .pointer (some ⟨p, 0, none⟩)] w fun e w' => e = .returned (.tuple #[.int .u32 (m32 (a - b)), .int .i64 0]) ∧ w = w' := by
  have hfn : ∀ args w', Sem.run Try.prog (callFunc 23 args) w' = .ok (.enter 23 args) w' := fun args w' => enterOf Try.func23 (by kernel_rfl) (by kernel_rfl) _ _
  go_enter Try.func29, Try.ntmps29
  go_wp2_with (go_at_call 23; refine (opSub _ _ _).mono ?_; rintro e w1 ⟨rfl, rfl⟩)
  all_goals go_ret2
  all_goals exact ⟨by simp, rfl⟩

set_option maxHeartbeats 400000 in
theorem finMul (a b : Int) (p : Nat) (w : World) (hc : w.cell? ⟨p, 0, none⟩ = some (.func (.func 24) #[] #[])) :
    Calls Try.prog 29 #[.int .u32 a, .int .u32 b, .pointer (some ⟨p, 0, none⟩)] w fun e w' => e = .returned (.tuple #[.int .u32 (m32 (a * b)), .int .i64 0]) ∧ w = w' := by
  have hfn : ∀ args w', Sem.run Try.prog (callFunc 24 args) w' = .ok (.enter 24 args) w' := fun args w' => enterOf Try.func24 (by kernel_rfl) (by kernel_rfl) _ _
  go_enter Try.func29, Try.ntmps29
  go_wp2_with (go_at_call 24; refine (opMul _ _ _).mono ?_; rintro e w1 ⟨rfl, rfl⟩)
  all_goals go_ret2
  all_goals exact ⟨by simp, rfl⟩

set_option maxHeartbeats 400000 in
theorem finLt (a b : Int) (p : Nat) (p2 : Nat) (w : World) (hc : w.cell? ⟨p, 0, none⟩ = some (.func (.func 30) #[] #[.pointer (some ⟨p2, 0, none⟩)])) (hc2 : w.cell? ⟨p2, 0, none⟩ = some (.func (.func 27) #[] #[])) :
    Calls Try.prog 29 #[.int .u32 a, .int .u32 b, .pointer (some ⟨p, 0, none⟩)] w fun e w' => e = .returned (.tuple #[.int .u32 (lt32 a b), .int .i64 0]) ∧ w = w' := by
  have hfn : ∀ args w', Sem.run Try.prog (callFunc 30 args) w' = .ok (.enter 30 args) w' := fun args w' => enterOf Try.func30 (by kernel_rfl) (by kernel_rfl) _ _
  go_enter Try.func29, Try.ntmps29
  go_wp2_with (go_at_call 30; refine (truLt _ _ p2 _ hc2).mono ?_; rintro e w1 ⟨rfl, rfl⟩)
  all_goals go_ret2
  all_goals exact ⟨by simp, rfl⟩

set_option maxHeartbeats 400000 in
theorem finEq (a b : Int) (p : Nat) (p2 : Nat) (w : World) (hc : w.cell? ⟨p, 0, none⟩ = some (.func (.func 30) #[] #[.pointer (some ⟨p2, 0, none⟩)])) (hc2 : w.cell? ⟨p2, 0, none⟩ = some (.func (.func 28) #[] #[])) :
    Calls Try.prog 29 #[.int .u32 a, .int .u32 b, .pointer (some ⟨p, 0, none⟩)] w fun e w' => e = .returned (.tuple #[.int .u32 (eq32 a b), .int .i64 0]) ∧ w = w' := by
  have hfn : ∀ args w', Sem.run Try.prog (callFunc 30 args) w' = .ok (.enter 30 args) w' := fun args w' => enterOf Try.func30 (by kernel_rfl) (by kernel_rfl) _ _
  go_enter Try.func29, Try.ntmps29
  go_wp2_with (go_at_call 30; refine (truEq _ _ p2 _ hc2).mono ?_; rintro e w1 ⟨rfl, rfl⟩)
  all_goals go_ret2
  all_goals exact ⟨by simp, rfl⟩


set_option maxHeartbeats 400000 in
theorem fine_ (g : FuncId) (cap : Array Value) (w : World) :
    Calls Try.prog 21 #[.func (.func g) #[] cap] w fun e w' => ∃ p, e = .returned (.agg #[.func (.func 29) #[] #[.pointer (some ⟨p, 0, none⟩)]]) ∧ Ext w w' ∧ w.heap.size ≤ p ∧ p < w'.heap.size ∧ w'.cell? ⟨p, 0, none⟩ = some (.func (.func g) #[] cap) := by
  go_enter Try.func21, Try.ntmps21
  go_wp2
  refine bodyPost_ret (v := .agg #[.func (.func 29) #[] #[.pointer (some ⟨w.heap.size, 0, none⟩)]]) ?_ rfl ?_
  · simp [results, Try.results21, go_sem]
  exact ⟨w.heap.size, rfl, (by repeat (first | (with_reducible exact Ext.refl _) | (with_reducible refine Ext.undrew ?_) | (with_reducible refine Ext.grow ?_ _) | (with_reducible refine Ext.drew ?_) | (with_reducible refine Ext.drewN ?_ _) | (with_reducible refine Ext.alloc ?_ _) | (with_reducible assumption) | ((with_reducible refine Ext.setCell ?_ ?_ _); rotate_left; (first | exact Nat.le_refl _ | ((try dsimp only); (try simp only [World.size_alloc, grow_size, World.size_setCell]); omega))))), Nat.le_refl _, by simp [go_sem], by simp [go_sem]⟩
set_option maxHeartbeats 400000 in
theorem truth_ (g : FuncId) (cap : Array Value) (w : World) :
    Calls Try.prog 26 #[.func (.func g) #[] cap] w fun e w' => ∃ p p2, e = .returned (.agg #[.func (.func 29) #[] #[.pointer (some ⟨p, 0, none⟩)]]) ∧ Ext w w' ∧ w.heap.size ≤ p ∧ p < w'.heap.size ∧ w'.cell? ⟨p, 0, none⟩ = some (.func (.func 30) #[] #[.pointer (some ⟨p2, 0, none⟩)]) ∧ w.heap.size ≤ p2 ∧ p2 < w'.heap.size ∧ w'.cell? ⟨p2, 0, none⟩ = some (.func (.func g) #[] cap) := by
  go_enter Try.func26, Try.ntmps26
  go_wp2_with (go_at_call 21; refine (fine_ _ _ _).mono ?_; rintro e w1 ⟨p, rfl, hx, hp0, hp1, hpc⟩; obtain ⟨d, rfl⟩ := hx.grown; clear hx)
  refine bodyPost_ret (v := .agg #[.func (.func 29) #[] #[.pointer (some ⟨p, 0, none⟩)]]) ?_ rfl ?_
  · simp [results, Try.results26, go_sem]
  refine ⟨p, w.heap.size, rfl, (by repeat (first | (with_reducible exact Ext.refl _) | (with_reducible refine Ext.undrew ?_) | (with_reducible refine Ext.grow ?_ _) | (with_reducible refine Ext.drew ?_) | (with_reducible refine Ext.drewN ?_ _) | (with_reducible refine Ext.alloc ?_ _) | (with_reducible assumption) | ((with_reducible refine Ext.setCell ?_ ?_ _); rotate_left; (first | exact Nat.le_refl _ | ((try dsimp only); (try simp only [World.size_alloc, grow_size, World.size_setCell]); omega))))), ?_, ?_, ?_, Nat.le_refl _, ?_, ?_⟩
  · simp only [World.size_alloc] at hp0; omega
  · simp only [grow_size, World.size_alloc] at hp1 ⊢; omega
  · rw [← hpc]; exact grow_far (by simp) (by simp only [World.size_alloc] at hp0 ⊢; omega) d
  · simp only [grow_size, World.size_alloc]; omega
  · simp [go_sem]

/-- A map block that is written. -/
def putMap (w : World) (g : Nat) (es : Array MapEntry) (c : Nat) : World := { w with heap := w.heap.setIfInBounds g (.map es c) }
theorem putMap_size (w : World) (g : Nat) (es : Array MapEntry) (c : Nat) : (putMap w g es c).heap.size = w.heap.size := by simp [putMap]
theorem putMap_self {w : World} {g : Nat} (h : g < w.heap.size) (es : Array MapEntry) (c : Nat) : (putMap w g es c).heap[g]? = some (.map es c) := by simp [putMap, h]
theorem putMap_other (w : World) {g k : Nat} (h : g ≠ k) (es : Array MapEntry) (c : Nat) : (putMap w g es c).heap[k]? = w.heap[k]? := by simp [putMap, Array.getElem?_setIfInBounds_ne h]
theorem putMap_cell (w : World) {g b o : Nat} (h : g ≠ b) (es : Array MapEntry) (c : Nat) : (putMap w g es c).cell? ⟨b, o, none⟩ = w.cell? ⟨b, o, none⟩ := by
  unfold World.cell?
  simp only [putMap_other w h]
theorem Ext.putMap {a w : World} (h : Ext a w) {g : Nat} (hg : a.heap.size ≤ g) (es : Array MapEntry) (c : Nat) : Ext a (putMap w g es c) :=
  ⟨h.os, h.tape, h.output, by rw [putMap_size]; exact h.size, fun k hk => by rw [putMap_other w (by omega)]; exact h.block k hk⟩
theorem underlying_run {P : Program} {t : TypeId} {d : TypeDesc} (h : P.underlying t = some d) (w : World) : (underlying t).run P w = .ok d w := by
  unfold underlying
  simp [go_sem, h]
theorem check_int {P : Program} {kt : TypeId} (hk : P.underlying kt = some (.int .i64)) (em : Bool) (n : Nat) (k : Int) (w : World) : (Instr.checkKey em (n + 1) kt (.int .i64 k)).run P w = .ok () w := by
  unfold Instr.checkKey
  simp [go_sem, underlying_run hk]
theorem run_find {P : Program} {kt : TypeId} (hk : P.underlying kt = some (.int .i64)) (w : World) {es : List MapEntry} {k : Int} {r : Option (Nat × Value)} (hn : Instr.findNow (.int .i64) (.int .i64 k) es 0 = some r) :
    (Instr.findKey kt (.int .i64 k) es).run P w = .ok r w := by
  unfold Instr.findKey
  simp [go_sem, underlying_run hk, hn]
theorem getObj_run {P : Program} {w : World} {g : Nat} {es : Array MapEntry} {c : Nat} (hb : w.heap[g]? = some (.map es c)) : (getObj g).run P w = .ok (.map es c) w := by
  unfold getObj
  simp only [Sem.run, hb]
theorem setObj_run {P : Program} {w : World} {g : Nat} {es : Array MapEntry} {c : Nat} (hb : w.heap[g]? = some (.map es c)) (es' : Array MapEntry) (c' : Nat) : (setObj g (.map es' c')).run P w = .ok () (putMap w g es' c') := by
  unfold setObj
  simp only [Sem.run, hb]
  rfl
theorem run_insert {P : Program} {t kt et : TypeId} (ht : P.underlying t = some (.map kt et)) (hk : P.underlying kt = some (.int .i64)) (w : World) {g : Nat} {es : Array MapEntry} {c : Nat} (hb : w.heap[g]? = some (.map es c))
    (k : Int) (v : Value) (hn : Instr.findNow (.int .i64) (.int .i64 k) es.toList 0 = some none) :
    (Instr.mapUpdate t (.map (some g)) (.int .i64 k) v).run P w = .ok () (putMap w g (es.push ⟨.int .i64 k, v, c⟩) (c + 1)) := by
  have hck : ∀ em w, (Instr.checkKey em 10000 kt (.int .i64 k)).run P w = .ok () w := fun em w => check_int hk em 9999 k w
  have hfk := run_find hk w hn
  unfold Instr.mapUpdate
  simp [go_sem, underlying_run ht, getObj_run hb, hck, hfk, setObj_run hb]
theorem run_look {P : Program} {t kt et : TypeId} (ht : P.underlying t = some (.map kt et)) (hk : P.underlying kt = some (.int .i64)) (w : World) {g : Nat} {es : Array MapEntry} {c : Nat} (hb : w.heap[g]? = some (.map es c))
    (k : Int) (z : Value) (hz : (zeroValue et).run P w = .ok z w) (r : Option (Nat × Value)) (hn : Instr.findNow (.int .i64) (.int .i64 k) es.toList 0 = some r) :
    (Instr.lookup t (.map (some g)) (.int .i64 k) true).run P w = .ok (.tuple #[(r.map (·.2)).getD z, .bool r.isSome]) w := by
  have hck : ∀ em w, (Instr.checkKey em 10000 kt (.int .i64 k)).run P w = .ok () w := fun em w => check_int hk em 9999 k w
  have hfk := run_find hk w hn
  unfold Instr.lookup
  cases r <;> simp [go_sem, underlying_run ht, getObj_run hb, hck, hfk, hz]

end Go.Proofs.Ytemeckdjkjnieaa
