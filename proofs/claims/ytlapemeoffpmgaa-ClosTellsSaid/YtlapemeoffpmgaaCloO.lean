/- Layer 6: Clone, Open. -/
import Derived.Test.YtlapemeoffpmgaaCloD
import Derived.Shelf.SlicesE.Clone
namespace Go.Proofs.Ytlapemeoffpmgaa
set_option linter.unusedSimpArgs false
set_option linter.unusedVariables false
open Go.RowKit Go.Shelf

set_option maxRecDepth 100000 in
set_option maxHeartbeats 4000000 in
theorem cclone_ (A : Option Addr) (n ca : Nat) (O : List Cap) (w : World) (hA : RdF Cap.cells w A O) (hn : O.length = n) (hb : n ≤ 1000000) (hz : A = none → ca = 0) : Calls Try.prog 34 #[.slice A n ca] w fun e w' => ∃ A' c', e = .returned (.slice A' n c') ∧ Hid (ownsAt w' w.heap.size 24 6 (.slice A' n c') n (rowF Cap.cells O)) ∧ Hid (Ext w w') := by
  have HA := hid hA
  rcases A with _ | a
  · have h0 : O.length = 0 := by
      rcases Nat.eq_zero_or_pos O.length with h | h
      · exact h
      · obtain ⟨_, _, h1, _⟩ := hA h
        cases h1
    obtain rfl := List.eq_nil_of_length_eq_zero h0
    obtain rfl : n = 0 := by simpa using hn.symm
    obtain rfl : ca = 0 := hz rfl
    clear hA
    have q22 : ∀ (w : World) (a : Option Addr) (n c n' c' : Nat), (Go.binOp .eql 22 (.slice a n c) (.slice none n' c')).run Try.prog w = .ok (.bool a.isNone) w := fun w a n c n' c' => Lib.run_eql_slice_nil w _ _ a n c n' c' Try.underlying22
    go_enter Try.func34, Try.ntmps34
    go_wp2
    go_ret
    exact ⟨none, ⟨0, rfl, hid (ownsAt_nil _ _ _ _), hid (Ext.refl _)⟩⟩
  · clear hA
    have HE : Hid (ownsAt (w.alloc (.cells #[] 24)) w.heap.size 24 6 (.slice (some ⟨w.heap.size, 0, none⟩) 0 0) 0 []) := hid ⟨by simp, .inr ⟨w.heap.size, 0, 0, #[], by simp, Nat.le_refl _, by show (w.heap.push _)[w.heap.size]? = _; simp, Nat.le_refl _, by unfold maxLen; omega, .inl rfl, by simp⟩⟩
    have q22 : ∀ (w : World) (a : Option Addr) (n c n' c' : Nat), (Go.binOp .eql 22 (.slice a n c) (.slice none n' c')).run Try.prog w = .ok (.bool a.isNone) w := fun w a n c n' c' => Lib.run_eql_slice_nil w _ _ a n c n' c' Try.underlying22
    go_enter Try.func34, Try.ntmps34
    go_wp2_with (at_builtin; refine wpList_plain rfl fun K hK => ?_; refine wp_app_row cap_len (by decide) cap_one Try.underlying22 info_capN _ _ rfl w.heap.size _ 0 [] rfl HE.out (some a) n ca O rfl hn (HA.out.ext ((Ext.refl _).alloc _)) (by unfold maxLen; omega) (by omega) (by simp) ?_; intro v7 W7 hown hgrow hat; rw [Nat.zero_add, List.nil_append] at hown; obtain ⟨A7, c7, rfl, _, _⟩ := hown.shape; refine hK _ _ ?_; clear hK K)
    go_ret
    exact ⟨A7, ⟨c7, rfl, hid hown, hid (Ext.only ((Ext.refl _).alloc _) (grownOnly (S := fun i => w.heap.size ≤ i) hgrow (fun g e => (HE.out.lt g e).1)) (fun i hi => hi))⟩⟩
set_option maxRecDepth 100000 in
set_option maxHeartbeats 4000000 in
theorem copen_ (s : Nat) (A : Option Addr) (cg : Nat) (G : List Cap) (B : Option Addr) (co : Nat) (O : List Cap) (w : World) (h : ClS w s A cg G B co O) (ho : O.length ≤ 1000000) (hz : B = none → co = 0) : Calls Try.prog 16 #[.pointer (some ⟨s, 0, none⟩)] w fun e w' => ∃ A' c', e = .returned (.slice A' O.length c') ∧ Hid (ownsAt w' w.heap.size 24 6 (.slice A' O.length c') O.length (rowF Cap.cells O)) ∧ Hid (Ext w w') := by
  have HC := hid (cclone_ B O.length co O w h.r1 rfl ho hz)
  obtain ⟨hlt, k0, k1, _, _⟩ := h
  go_enter Try.func16, Try.ntmps16
  go_wp2_with fail
  refine HC.out.mono ?_
  rintro e W1 ⟨A', c', rfl, HO, HX⟩
  go_wp2
  go_ret
  exact ⟨A', ⟨c', rfl, HO, HX⟩⟩

end Go.Proofs.Ytlapemeoffpmgaa
