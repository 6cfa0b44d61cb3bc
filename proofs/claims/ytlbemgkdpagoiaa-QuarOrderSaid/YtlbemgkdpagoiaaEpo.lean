/- Layer 9: contracts of clocks. -/
import Derived.Test.YtlbemgkdpagoiaaProg
import Derived.Test.YtlbemgkdpagoiaaG
namespace Go.Proofs.Ytlbemgkdpagoiaa
set_option linter.unusedSimpArgs false
set_option linter.unusedVariables false
open Go.RowKit


/-- The time that counts. -/
def clampT (n : Int) : Int := min (max n 0) 2199023255552
def whenT (n : Int) : Int := clampT n + 2 + clampT n % 2
theorem clampT_bd (n : Int) : 0 ≤ clampT n ∧ clampT n ≤ 2199023255552 := by unfold clampT; omega
theorem whenT_bd (n : Int) : 2 ≤ whenT n ∧ whenT n ≤ 2199023255555 := by have := clampT_bd n; unfold whenT; omega
theorem clampT_of {n : Int} (h0 : 0 ≤ n) (h1 : n ≤ 2199023255552) : clampT n = n := by unfold clampT; omega
/-- A clock at a block. -/
def Clk (w : World) (b : Nat) (t : Int) : Prop := b < w.heap.size ∧ w.cell? ⟨b, 0, none⟩ = some (.int .i64 t) ∧ w.frozen? ⟨b, 0, none⟩ = false
def oddB (t : Int) : Bool := t % 2 == 1
def beginT (t : Int) : Int := if t % 2 = 0 then t + 1 else t
def endT (t : Int) : Int := if t % 2 = 1 then t + 1 else t
theorem setCell_same {w : World} {b o : Nat} {v : Value} (h : w.cell? ⟨b, o, none⟩ = some v) : w.setCell ⟨b, o, none⟩ v = w := by
  suffices hh : (w.setCell ⟨b, o, none⟩ v).heap = w.heap by
    have : w.setCell ⟨b, o, none⟩ v = { w with heap := (w.setCell ⟨b, o, none⟩ v).heap } := rfl
    rw [this, hh]
  unfold World.cell? at h
  split at h
  · rename_i c e f hb
    simp at h
    simp only [] at hb
    unfold World.setCell
    apply Array.ext_getElem?
    intro i
    simp only [Array.getElem?_modify]
    split
    · rename_i hi
      subst hi
      rw [hb]
      simp
      apply Array.ext_getElem?
      intro j
      rw [Array.getElem?_setIfInBounds]
      split
      · rename_i hj
        subst hj
        split
        · exact h.symm
        · rename_i hlt
          simp at hlt
          simp [hlt]
      · rfl
    · rfl
  · simp at h

theorem heap_setCell (w : World) (b o : Nat) (v : Value) (i : Nat) : (w.setCell ⟨b, o, none⟩ v).heap[i]? = if b = i then (w.heap[i]?).map (fun | .cells c e f => .cells (c.setIfInBounds o v) e f | x => x) else w.heap[i]? := by
  unfold World.setCell
  simp only [Array.getElem?_modify]
  split
  · congr 1
  · rfl
theorem cell_setCell_self (w : World) (b o : Nat) (v : Value) : (w.setCell ⟨b, o, none⟩ v).cell? ⟨b, o, none⟩ = (w.cell? ⟨b, o, none⟩).map fun _ => v := by
  unfold World.cell?
  rw [heap_setCell]
  simp only [if_true]
  cases h : w.heap[b]? with
  | none => simp
  | some x => cases x <;> simp [Array.getElem?_setIfInBounds] <;> (split <;> simp_all)
theorem setCell_setCell (w : World) (b o : Nat) (u v : Value) : (w.setCell ⟨b, o, none⟩ u).setCell ⟨b, o, none⟩ v = w.setCell ⟨b, o, none⟩ v := by
  suffices hh : ((w.setCell ⟨b, o, none⟩ u).setCell ⟨b, o, none⟩ v).heap = (w.setCell ⟨b, o, none⟩ v).heap by
    have h1 : (w.setCell ⟨b, o, none⟩ u).setCell ⟨b, o, none⟩ v = { w with heap := ((w.setCell ⟨b, o, none⟩ u).setCell ⟨b, o, none⟩ v).heap } := rfl
    have h2 : w.setCell ⟨b, o, none⟩ v = { w with heap := (w.setCell ⟨b, o, none⟩ v).heap } := rfl
    rw [h1, h2, hh]
  apply Array.ext_getElem?
  intro i
  rw [heap_setCell, heap_setCell, heap_setCell]
  split
  · cases h : w.heap[i]? with
    | none => simp
    | some x => cases x <;> simp
  · rfl
attribute [go_sem] setCell_setCell

set_option maxHeartbeats 400000 in
theorem now (b : Nat) (t : Int)  (w : World) (h : Clk w b t) (h0 : 0 ≤ t) (h1 : t ≤ 100000) :
    Calls Try.prog 26 #[.pointer (some ⟨b, 0, none⟩)] w fun e w' => e = .returned (.int .i64 t) ∧ w = w' := by
  obtain ⟨hb, hc, hf⟩ := h
  go_enter Try.func26, Try.ntmps26
  go_wp2
  go_ret
  exact ⟨rfl, rfl⟩

set_option maxHeartbeats 400000 in
theorem runs (b : Nat) (t : Int)  (w : World) (h : Clk w b t) (h0 : 0 ≤ t) (h1 : t ≤ 100000) :
    Calls Try.prog 36 #[.pointer (some ⟨b, 0, none⟩)] w fun e w' => e = .returned (.bool (oddB t)) ∧ w = w' := by
  obtain ⟨hb, hc, hf⟩ := h
  go_enter Try.func36, Try.ntmps36
  go_wp2
  go_ret
  exact ⟨by simp [oddB], rfl⟩

set_option maxHeartbeats 400000 in
theorem when_ (n : Int) (w : World) (h0 : -9223372036854775808 ≤ n) (h1 : n ≤ 9223372036854775807) :
    Calls Try.prog 24 #[.int .i64 n] w fun e w' => e = .returned (.int .i64 (whenT n)) ∧ w = w' := by
  have hbd := clampT_bd n
  go_enter Try.func24, Try.ntmps24
  go_wp2
  all_goals go_ret
  all_goals refine ⟨?_, rfl⟩
  all_goals (simp [whenT, clampT] <;> (first | omega | (split at * <;> omega)))

set_option maxHeartbeats 400000 in
theorem rwhen (n : Int) (w : World) (h0 : -9223372036854775808 ≤ n) (h1 : n ≤ 9223372036854775807) :
    Calls Try.prog 30 #[.int .i64 n] w fun e w' => e = .returned (.int .i64 (whenT n)) ∧ w = w' := by
  have hbd := clampT_bd n
  go_enter Try.func30, Try.ntmps30
  go_wp2
  all_goals go_ret
  all_goals refine ⟨?_, rfl⟩
  all_goals (simp [whenT, clampT] <;> (first | omega | (split at * <;> omega)))


theorem grow_none (w : World) : grow w ⟨#[], w.drawn⟩ = w := by simp [grow]
theorem upd_same {w : World} {b : Nat} {v : Value} (h : w.cell? ⟨b, 0, none⟩ = some v) : ∃ d, w = grow (w.setCell ⟨b, 0, none⟩ v) d := ⟨⟨#[], w.drawn⟩, by rw [setCell_same h, grow_none]⟩
theorem upd_self (w : World) : ∃ d, w = grow w d := ⟨⟨#[], w.drawn⟩, by rw [grow_none]⟩
theorem enterOf {P : Program} {f : FuncId} {fn : Func} (hf : P.funcs[f]? = some fn) (hname : (fn.name == "runtime.NumGoroutine") = false) (hc : fn.body.isSome = true) (args : Array Value) (w : World) :
    Sem.run P (callFunc f args) w = .ok (.enter f args) w := by
  have h1 : ¬ fn.name = "runtime.NumGoroutine" := by simpa using hname
  obtain ⟨c, hb⟩ := Option.isSome_iff_exists.1 hc
  simp [callFunc, hf, h1, hb, Sem.run]
theorem oddB_iff (t : Int) : oddB t = true ↔ t % 2 = 1 := by simp [oddB]
theorem beginT_odd {t : Int} (h : oddB t = true) : beginT t = t := by unfold beginT; rw [oddB_iff] at h; rw [if_neg (by omega)]
theorem beginT_even {t : Int} (h : oddB t = false) : beginT t = t + 1 := by unfold beginT; rw [if_pos]; simp [oddB] at h; omega
theorem endT_odd {t : Int} (h : oddB t = true) : endT t = t + 1 := by unfold endT; rw [oddB_iff] at h; rw [if_pos h]
theorem endT_even {t : Int} (h : oddB t = false) : endT t = t := by unfold endT; rw [if_neg]; simp [oddB] at h; omega

set_option maxHeartbeats 400000 in
theorem mayBegin (b : Nat) (t : Int) (w : World) (h : Clk w b t) (h0 : 0 ≤ t) (h1 : t ≤ 100000) :
    Calls Try.prog 35 #[.pointer (some ⟨b, 0, none⟩)] w fun e w' => e = .returned (.bool (!oddB t)) ∧ w = w' := by
  have H := h
  obtain ⟨hb, hc, hf⟩ := h
  have hlt : decide (t < 1099511627776) = true := by simp; omega
  cases ho : oddB t
  all_goals
    go_enter Try.func35, Try.ntmps35
    go_wp2_with (go_at_call 36; refine (runs b t _ H h0 h1).mono ?_; rintro e w1 ⟨rfl, rfl⟩)
    go_ret
    exact ⟨rfl, rfl⟩

set_option maxHeartbeats 400000 in
theorem change_ (b : Nat) (t : Int) (f : FuncId) (x : Bool) (t2 : Int) (ht : (if x = true then t + 1 else t) = t2) (w : World) (h : Clk w b t) (h0 : 0 ≤ t) (h1 : t ≤ 100000) (hfn : ∀ w', Sem.run Try.prog (callFunc f #[.pointer (some ⟨b, 0, none⟩)]) w' = .ok (.enter f #[.pointer (some ⟨b, 0, none⟩)]) w')
    (hcall : Calls Try.prog f #[.pointer (some ⟨b, 0, none⟩)] w fun e w' => e = .returned (.bool x) ∧ w = w') :
    Calls Try.prog 34 #[.pointer (some ⟨b, 0, none⟩), .func (.func f) #[.pointer (some ⟨b, 0, none⟩)] #[]] w fun e w' => e = .returned (.bool x) ∧ ∃ d, w' = grow (w.setCell ⟨b, 0, none⟩ (.int .i64 t2)) d := by
  obtain ⟨hb, hc, hf⟩ := h
  have HC := hid hcall
  clear hcall
  have HS := hid (upd_same hc)
  cases x
  all_goals
    simp only [Bool.false_eq_true, if_true, if_false] at ht
    subst ht
    go_enter Try.func34, Try.ntmps34
    go_wp2_with (refine HC.out.mono ?_; rintro r w2 ⟨rfl, rfl⟩)
    go_ret
  · exact ⟨rfl, HS.out⟩
  · exact ⟨rfl, upd_self _⟩

set_option maxHeartbeats 400000 in
theorem begin_ (b : Nat) (t : Int) (w : World) (h : Clk w b t) (h0 : 0 ≤ t) (h1 : t ≤ 100000) :
    Calls Try.prog 27 #[.pointer (some ⟨b, 0, none⟩)] w fun e w' => e = .returned (.bool (!oddB t)) ∧ ∃ d, w' = grow (w.setCell ⟨b, 0, none⟩ (.int .i64 (beginT t))) d := by
  have H := h
  obtain ⟨hb, hc, hf⟩ := h
  have hfn : ∀ w', Sem.run Try.prog (callFunc 35 #[.pointer (some ⟨b, 0, none⟩)]) w' = .ok (.enter 35 #[.pointer (some ⟨b, 0, none⟩)]) w' := fun w' => enterOf Try.func35 (by kernel_rfl) (by kernel_rfl) _ _
  have HF := hid hfn
  clear hfn
  have he : (if (!oddB t) = true then t + 1 else t) = beginT t := by cases ho : oddB t <;> simp [beginT] <;> simp [oddB] at ho <;> omega
  have HE := hid he
  clear he
  go_enter Try.func27, Try.ntmps27
  go_wp2_with (go_at_call 34; refine (change_ b t 35 (!oddB t) (beginT t) HE.out _ H h0 h1 HF.out (mayBegin b t _ H h0 h1)).mono ?_; rintro e w1 ⟨rfl, d, rfl⟩)
  go_ret
  exact ⟨rfl, d, rfl⟩

set_option maxHeartbeats 400000 in
theorem end_ (b : Nat) (t : Int) (w : World) (h : Clk w b t) (h0 : 0 ≤ t) (h1 : t ≤ 100000) :
    Calls Try.prog 28 #[.pointer (some ⟨b, 0, none⟩)] w fun e w' => e = .returned (.bool (oddB t)) ∧ ∃ d, w' = grow (w.setCell ⟨b, 0, none⟩ (.int .i64 (endT t))) d := by
  have H := h
  obtain ⟨hb, hc, hf⟩ := h
  have hfn : ∀ w', Sem.run Try.prog (callFunc 36 #[.pointer (some ⟨b, 0, none⟩)]) w' = .ok (.enter 36 #[.pointer (some ⟨b, 0, none⟩)]) w' := fun w' => enterOf Try.func36 (by kernel_rfl) (by kernel_rfl) _ _
  have HF := hid hfn
  clear hfn
  have he : (if (oddB t) = true then t + 1 else t) = endT t := by cases ho : oddB t <;> simp [endT] <;> simp [oddB] at ho <;> omega
  have HE := hid he
  clear he
  go_enter Try.func28, Try.ntmps28
  go_wp2_with (go_at_call 34; refine (change_ b t 36 (oddB t) (endT t) HE.out _ H h0 h1 HF.out (runs b t _ H h0 h1)).mono ?_; rintro e w1 ⟨rfl, d, rfl⟩)
  go_ret
  exact ⟨rfl, d, rfl⟩

set_option maxHeartbeats 400000 in
theorem new  (w : World) :
    Calls Try.prog 25 #[] w fun e w' => ∃ b, e = .returned (.pointer (some ⟨b, 0, none⟩)) ∧ Ext w w' ∧ w.heap.size ≤ b ∧ Clk w' b 0 := by
  go_enter Try.func25, Try.ntmps25
  go_wp2
  go_ret
  refine ⟨w.heap.size, rfl, Ext.alloc (Ext.refl w) _, Nat.le_refl _, ?_⟩
  refine ⟨?_, ?_, ?_⟩ <;> simp [go_sem]


end Go.Proofs.Ytlbemgkdpagoiaa
