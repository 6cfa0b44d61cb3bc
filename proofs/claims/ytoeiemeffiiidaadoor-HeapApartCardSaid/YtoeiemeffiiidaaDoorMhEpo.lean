/- MhEpo: Epo -/
import Derived.Test.YtoeiemeffiiidaaDoorMhSha
namespace Go.Proofs.YtoeiemeffiiidaaDoor
set_option maxRecDepth 100000
set_option linter.unusedSimpArgs false
set_option linter.unusedVariables false
open Go.RowKit


/-- The time that counts. -/
def clampT (n : Int) : Int := min (max n 0) 2199023255552
def whenT (n : Int) : Int := clampT n + 2 + clampT n % 2
theorem clampT_bd (n : Int) : 0 ≤ clampT n ∧ clampT n ≤ 2199023255552 := by unfold clampT; omega
theorem whenT_bd (n : Int) : 2 ≤ whenT n ∧ whenT n ≤ 2199023255555 := by have := clampT_bd n; unfold whenT; omega
theorem clampT_of {n : Int} (h0 : 0 ≤ n) (h1 : n ≤ 2199023255552) : clampT n = n := by unfold clampT; omega
/-- A clock at a block. -/
def Clk (w : World) (b : Nat) (t : Int) : Prop := b < w.heap.size ∧ w.cell? ⟨b, 0, none⟩ = some (.int .i64 t) ∧ w.frozen? ⟨b, 0, none⟩ = false
def oddB (t : Int) : Bool := t % 2 == 1
def beginT (t : Int) : Int := if t % 2 = 0 then t + 1 else t
def endT (t : Int) : Int := if t % 2 = 1 then t + 1 else t
theorem setCell_same {w : World} {b o : Nat} {v : Value} (h : w.cell? ⟨b, o, none⟩ = some v) : w.setCell ⟨b, o, none⟩ v = w := by
  suffices hh : (w.setCell ⟨b, o, none⟩ v).heap = w.heap by
    have : w.setCell ⟨b, o, none⟩ v = { w with heap := (w.setCell ⟨b, o, none⟩ v).heap } := rfl
    rw [this, hh]
  unfold World.cell? at h
  split at h
  · rename_i c e f hb
    simp at h
    simp only [] at hb
    unfold World.setCell
    apply Array.ext_getElem?
    intro i
    simp only [Array.getElem?_modify]
    split
    · rename_i hi
      subst hi
      rw [hb]
      simp
      apply Array.ext_getElem?
      intro j
      rw [Array.getElem?_setIfInBounds]
      split
      · rename_i hj
        subst hj
        split
        · exact h.symm
        · rename_i hlt
          simp at hlt
          simp [hlt]
      · rfl
    · rfl
  · simp at h

theorem setCell_setCell (w : World) (b o : Nat) (u v : Value) : (w.setCell ⟨b, o, none⟩ u).setCell ⟨b, o, none⟩ v = w.setCell ⟨b, o, none⟩ v := by
  suffices hh : ((w.setCell ⟨b, o, none⟩ u).setCell ⟨b, o, none⟩ v).heap = (w.setCell ⟨b, o, none⟩ v).heap by
    have h1 : (w.setCell ⟨b, o, none⟩ u).setCell ⟨b, o, none⟩ v = { w with heap := ((w.setCell ⟨b, o, none⟩ u).setCell ⟨b, o, none⟩ v).heap } := rfl
    have h2 : w.setCell ⟨b, o, none⟩ v = { w with heap := (w.setCell ⟨b, o, none⟩ v).heap } := rfl
    rw [h1, h2, hh]
  apply Array.ext_getElem?
  intro i
  rw [heap_setCell, heap_setCell, heap_setCell]
  split
  · cases h : w.heap[i]? with
    | none => simp
    | some x => cases x <;> simp
  · rfl
attribute [go_sem] setCell_setCell

set_option maxHeartbeats 400000 in
theorem now (b : Nat) (t : Int)  (w : World) (h : Clk w b t) (h0 : 0 ≤ t) (h1 : t ≤ 100000) :
    Calls Tryd.prog 33 #[.pointer (some ⟨b, 0, none⟩)] w fun e w' => e = .returned (.int .i64 t) ∧ w = w' := by
  obtain ⟨hb, hc, hf⟩ := h
  go_enter Tryd.func33, Tryd.ntmps33
  go_wp2
  go_ret
  exact ⟨rfl, rfl⟩

set_option maxHeartbeats 400000 in
theorem runs (b : Nat) (t : Int)  (w : World) (h : Clk w b t) (h0 : 0 ≤ t) (h1 : t ≤ 100000) :
    Calls Tryd.prog 45 #[.pointer (some ⟨b, 0, none⟩)] w fun e w' => e = .returned (.bool (oddB t)) ∧ w = w' := by
  obtain ⟨hb, hc, hf⟩ := h
  go_enter Tryd.func45, Tryd.ntmps45
  go_wp2
  go_ret
  exact ⟨by simp [oddB], rfl⟩

set_option maxHeartbeats 400000 in
theorem when_ (n : Int) (w : World) (h0 : -9223372036854775808 ≤ n) (h1 : n ≤ 9223372036854775807) :
    Calls Tryd.prog 73 #[.int .i64 n] w fun e w' => e = .returned (.int .i64 (whenT n)) ∧ w = w' := by
  have hbd := clampT_bd n
  go_enter Tryd.func73, Tryd.ntmps73
  go_wp2
  all_goals go_ret
  all_goals refine ⟨?_, rfl⟩
  all_goals (simp [whenT, clampT] <;> (first | omega | (split at * <;> omega)))


theorem grow_none (w : World) : grow w ⟨#[], w.drawn⟩ = w := by simp [grow]
theorem upd_same {w : World} {b : Nat} {v : Value} (h : w.cell? ⟨b, 0, none⟩ = some v) : ∃ d, w = grow (w.setCell ⟨b, 0, none⟩ v) d := ⟨⟨#[], w.drawn⟩, by rw [setCell_same h, grow_none]⟩
theorem upd_self (w : World) : ∃ d, w = grow w d := ⟨⟨#[], w.drawn⟩, by rw [grow_none]⟩
theorem oddB_iff (t : Int) : oddB t = true ↔ t % 2 = 1 := by simp [oddB]
theorem beginT_odd {t : Int} (h : oddB t = true) : beginT t = t := by unfold beginT; rw [oddB_iff] at h; rw [if_neg (by omega)]
theorem beginT_even {t : Int} (h : oddB t = false) : beginT t = t + 1 := by unfold beginT; rw [if_pos]; simp [oddB] at h; omega
theorem endT_odd {t : Int} (h : oddB t = true) : endT t = t + 1 := by unfold endT; rw [oddB_iff] at h; rw [if_pos h]
theorem endT_even {t : Int} (h : oddB t = false) : endT t = t := by unfold endT; rw [if_neg]; simp [oddB] at h; omega

set_option maxHeartbeats 400000 in
theorem mayBegin (b : Nat) (t : Int) (w : World) (h : Clk w b t) (h0 : 0 ≤ t) (h1 : t ≤ 100000) :
    Calls Tryd.prog 55 #[.pointer (some ⟨b, 0, none⟩)] w fun e w' => e = .returned (.bool (!oddB t)) ∧ w = w' := by
  have H := h
  obtain ⟨hb, hc, hf⟩ := h
  have hlt : decide (t < 1099511627776) = true := by simp; omega
  cases ho : oddB t
  all_goals
    go_enter Tryd.func55, Tryd.ntmps55
    go_wp2_with (go_at_call 45; refine (runs b t _ H h0 h1).mono ?_; rintro e w1 ⟨rfl, rfl⟩)
    go_ret
    exact ⟨rfl, rfl⟩

set_option maxHeartbeats 400000 in
theorem change_ (b : Nat) (t : Int) (f : FuncId) (x : Bool) (t2 : Int) (ht : (if x = true then t + 1 else t) = t2) (w : World) (h : Clk w b t) (h0 : 0 ≤ t) (h1 : t ≤ 100000) (hfn : ∀ w', Sem.run Tryd.prog (callFunc f #[.pointer (some ⟨b, 0, none⟩)]) w' = .ok (.enter f #[.pointer (some ⟨b, 0, none⟩)]) w')
    (hcall : Calls Tryd.prog f #[.pointer (some ⟨b, 0, none⟩)] w fun e w' => e = .returned (.bool x) ∧ w = w') :
    Calls Tryd.prog 54 #[.pointer (some ⟨b, 0, none⟩), .func (.func f) #[.pointer (some ⟨b, 0, none⟩)] #[]] w fun e w' => e = .returned (.bool x) ∧ ∃ d, w' = grow (w.setCell ⟨b, 0, none⟩ (.int .i64 t2)) d := by
  obtain ⟨hb, hc, hf⟩ := h
  have HC := hid hcall
  clear hcall
  have HS := hid (upd_same hc)
  cases x
  all_goals
    simp only [Bool.false_eq_true, if_true, if_false] at ht
    subst ht
    go_enter Tryd.func54, Tryd.ntmps54
    go_wp2_with (refine HC.out.mono ?_; rintro r w2 ⟨rfl, rfl⟩)
    go_ret
  · exact ⟨rfl, HS.out⟩
  · exact ⟨rfl, upd_self _⟩

set_option maxHeartbeats 400000 in
theorem begin_ (b : Nat) (t : Int) (w : World) (h : Clk w b t) (h0 : 0 ≤ t) (h1 : t ≤ 100000) :
    Calls Tryd.prog 34 #[.pointer (some ⟨b, 0, none⟩)] w fun e w' => e = .returned (.bool (!oddB t)) ∧ ∃ d, w' = grow (w.setCell ⟨b, 0, none⟩ (.int .i64 (beginT t))) d := by
  have H := h
  obtain ⟨hb, hc, hf⟩ := h
  have hfn : ∀ w', Sem.run Tryd.prog (callFunc 55 #[.pointer (some ⟨b, 0, none⟩)]) w' = .ok (.enter 55 #[.pointer (some ⟨b, 0, none⟩)]) w' := fun w' => enterOf Tryd.func55 (by kernel_rfl) (by kernel_rfl) _ _
  have HF := hid hfn
  clear hfn
  have he : (if (!oddB t) = true then t + 1 else t) = beginT t := by cases ho : oddB t <;> simp [beginT] <;> simp [oddB] at ho <;> omega
  have HE := hid he
  clear he
  go_enter Tryd.func34, Tryd.ntmps34
  go_wp2_with (go_at_call 54; refine (change_ b t 55 (!oddB t) (beginT t) HE.out _ H h0 h1 HF.out (mayBegin b t _ H h0 h1)).mono ?_; rintro e w1 ⟨rfl, d, rfl⟩)
  go_ret
  exact ⟨rfl, d, rfl⟩

set_option maxHeartbeats 400000 in
theorem end_ (b : Nat) (t : Int) (w : World) (h : Clk w b t) (h0 : 0 ≤ t) (h1 : t ≤ 100000) :
    Calls Tryd.prog 37 #[.pointer (some ⟨b, 0, none⟩)] w fun e w' => e = .returned (.bool (oddB t)) ∧ ∃ d, w' = grow (w.setCell ⟨b, 0, none⟩ (.int .i64 (endT t))) d := by
  have H := h
  obtain ⟨hb, hc, hf⟩ := h
  have hfn : ∀ w', Sem.run Tryd.prog (callFunc 45 #[.pointer (some ⟨b, 0, none⟩)]) w' = .ok (.enter 45 #[.pointer (some ⟨b, 0, none⟩)]) w' := fun w' => enterOf Tryd.func45 (by kernel_rfl) (by kernel_rfl) _ _
  have HF := hid hfn
  clear hfn
  have he : (if (oddB t) = true then t + 1 else t) = endT t := by cases ho : oddB t <;> simp [endT] <;> simp [oddB] at ho <;> omega
  have HE := hid he
  clear he
  go_enter Tryd.func37, Tryd.ntmps37
  go_wp2_with (go_at_call 54; refine (change_ b t 45 (oddB t) (endT t) HE.out _ H h0 h1 HF.out (runs b t _ H h0 h1)).mono ?_; rintro e w1 ⟨rfl, d, rfl⟩)
  go_ret
  exact ⟨rfl, d, rfl⟩

set_option maxHeartbeats 400000 in
theorem new  (w : World) :
    Calls Tryd.prog 30 #[] w fun e w' => ∃ b, e = .returned (.pointer (some ⟨b, 0, none⟩)) ∧ Ext w w' ∧ w.heap.size ≤ b ∧ Clk w' b 0 := by
  go_enter Tryd.func30, Tryd.ntmps30
  go_wp2
  go_ret
  refine ⟨w.heap.size, rfl, Ext.alloc (Ext.refl w) _, Nat.le_refl _, ?_⟩
  refine ⟨?_, ?_, ?_⟩ <;> simp [go_sem]

end Go.Proofs.YtoeiemeffiiidaaDoor
