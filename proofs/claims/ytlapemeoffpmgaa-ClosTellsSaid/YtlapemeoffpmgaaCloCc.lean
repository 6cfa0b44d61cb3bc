/- Layer 6: Grow, Concat. -/
import Derived.Test.YtlapemeoffpmgaaCloD
import Derived.Shelf.Spec.SlicesGrow
import Derived.Laws.AppendOwn
namespace Go.Proofs.Ytlapemeoffpmgaa
set_option linter.unusedSimpArgs false
set_option linter.unusedVariables false
open Go.RowKit Go.Shelf

shelf_lay_g Lays8.n4 Nm8 4 at Try 77 as Try.growCap
theorem cgrow_ (n : Nat) (w : World) (hn : n ≤ 1000000) : Calls Try.prog 77 #[.slice none 0 0, .int .i64 n] w fun e w' => ∃ A c, e = .returned (.slice A 0 c) ∧ Hid (ownsAt w' w.heap.size 24 6 (.slice A 0 c) 0 (rowF Cap.cells [])) ∧ Hid (Ext w w') := by
  rcases Nat.eq_zero_or_pos n with h0 | h0
  · subst h0
    refine (Any8.slices_Grow_room Try.growCap none 0 0 0 w (Nat.le_refl _) (by decide) (by decide) (by decide)).mono ?_
    rintro e w' ⟨rfl, rfl⟩
    exact ⟨none, 0, rfl, hid (ownsAt_nil _ _ _ _), hid (Ext.refl _)⟩
  · obtain ⟨i0, z0, hi0, hz0, hz2, hz3, hz1⟩ := info_capN
    have hcon := Any8.slices_Grow_grow Try.growCap i0 z0 hi0 hz0 (by rw [hz2]; decide) none 0 0 n [] w (Nat.le_refl _) (by omega) (by rw [hz3]; omega) (by omega) (by simp) (fun _ => rfl) (fun _ h => by cases h)
    refine hcon.mono ?_
    rintro e w' ⟨rfl, rfl⟩
    refine ⟨_, _, rfl, hid ⟨rfl, .inr ⟨w.heap.size, 0, _, _, by rw [Nat.zero_mul], Nat.le_refl _, by show (w.heap.push _)[w.heap.size]? = _; rw [Array.getElem?_push_size]; rfl, Nat.zero_le _, ?_, .inr ?_, by simp [rowF_nil]⟩⟩, hid ((Ext.drew (Ext.refl _)).alloc _)⟩
    · rw [Nat.zero_add]
      exact grownCap_le_maxLen w _ _ _ (by unfold maxLen; omega)
    · have hge := grownCap_ge w (0 + n) 0 (Try.growCap_ren.t 25)
      simp only [Array.size_append, size_zeroCells, hz1]
      simp only [List.size_toArray, List.length_nil]
      omega
set_option maxRecDepth 100000 in
set_option maxHeartbeats 4000000 in
theorem cconcat_ (b c : Nat) (A : Option Addr) (n ca : Nat) (X : List Cap) (B : Option Addr) (m cb : Nat) (Y : List Cap) (w : World) (hb : b < w.heap.size) (k0 : w.cell? ⟨b, 0, none⟩ = some (.slice A n ca)) (k1 : w.cell? ⟨b, 1, none⟩ = some (.slice B m cb)) (hX : RdF Cap.cells w A X) (hn : X.length = n) (hY : RdF Cap.cells w B Y) (hm : Y.length = m) (hs : n + m ≤ 100000) : Calls Try.prog 52 #[.slice (some ⟨b, 0, none⟩) 2 c] w fun e w' => ∃ A' c' l, e = .returned (.slice A' l c') ∧ n + m = l ∧ Hid (ownsAt w' w.heap.size 24 6 (.slice A' l c') l (rowF Cap.cells (X ++ Y))) ∧ Hid (Ext w w') := by
  have HX1 := hid hX
  have HY1 := hid hY
  have HN := hid hn
  have HM := hid hm
  have HK0 := hid k0
  have HK1 := hid k1
  have e1 : wrap64 (n : Int) = n := wrap64_id (by omega) (by omega)
  have e2 : wrap64 ((n : Int) + (m : Int)) = ((n + m : Nat) : Int) := by rw [wrap64_id (by omega) (by omega)]; omega
  have hp1 : ¬ ((n : Int)) < 0 := by omega
  have hp2 : ¬ (((n + m : Nat) : Int)) < 0 := by omega
  clear hX hY hn hm
  go_enter Try.func52, Try.ntmps52
  go_wp2
  go_loopw [3, 11] (fun v i wr => ((i = .int .i64 0 ∧ v = .int .i64 0) ∨ (i = .int .i64 1 ∧ v = .int .i64 n) ∨ (i = .int .i64 2 ∧ v = .int .i64 (n + m : Nat))) ∧ w = wr) (fun _ i _ => 2 - (intOf i).toNat)
  case atStart => exact ⟨.inl ⟨rfl, rfl⟩, rfl⟩
  case round =>
    obtain ⟨⟨rfl, rfl⟩ | ⟨rfl, rfl⟩ | ⟨rfl, rfl⟩, rfl⟩ := hrel
    · go_wp2
      go_roundw
      case rel => exact ⟨.inr (.inl ⟨rfl, by first | rfl | (rw [Int.zero_add, e1])⟩), by first | rfl | trivial⟩
      case measure => simp [intOf]
    · go_wp2
      go_roundw
      case rel => exact ⟨.inr (.inr ⟨rfl, by first | rfl | (rw [e2])⟩), by first | rfl | trivial⟩
      case measure => simp [intOf]
    · go_wp2_with fail
      refine (cgrow_ (n + m) w (by omega)).mono ?_
      rintro e W1 ⟨A1, c1, rfl, HO1, HX2⟩
      go_wp2
      go_loopw [6, 27] (fun g i wr => ∃ acc : List Cap, Hid (ownsAt wr w.heap.size 24 6 g acc.length (rowF Cap.cells acc)) ∧ Hid (Ext w wr) ∧ ((i = .int .i64 0 ∧ [] = acc) ∨ (i = .int .i64 1 ∧ X = acc) ∨ (i = .int .i64 2 ∧ X ++ Y = acc))) (fun _ i _ => 2 - (intOf i).toNat)
      case atStart => exact ⟨[], HO1, HX2, .inl ⟨rfl, rfl⟩⟩
      case round =>
      obtain ⟨acc, HO, HX, ⟨rfl, rfl⟩ | ⟨rfl, rfl⟩ | ⟨rfl, rfl⟩⟩ := hrel
      all_goals obtain ⟨A5, c5, rfl, _, _⟩ := HO.out.shape
      · have q0 := (HX.out.cells b 0 hb).trans HK0.out
        have q1 := (HX.out.cells b 1 hb).trans HK1.out
        have hb2 := Nat.lt_of_lt_of_le hb HX.out.size
        go_wp2_with (at_builtin; refine wpList_plain rfl fun K hK => ?_; refine wp_app_row cap_len (by decide) cap_one Try.underlying22 info_capN _ _ rfl w.heap.size _ (([] : List Cap)).length (rowF Cap.cells (([] : List Cap))) rfl HO.out A n ca X rfl HN.out (HX1.out.ext HX.out) (by have h8 := HN.out; unfold maxLen; (try simp only [List.length_nil]); omega) (by have h8 := HN.out; (try simp only [List.length_nil]); omega) HX.out.size ?_; intro v7 W7 hown hgrow hat; obtain ⟨A7, c7, rfl, _, _⟩ := hown.shape; refine hK _ _ ?_; clear hK K)
        have HO5 : Hid (ownsAt W7 w.heap.size 24 6 (.slice A7 ((([] : List Cap)).length + n) c7) (([] : List Cap) ++ X).length (rowF Cap.cells (([] : List Cap) ++ X))) := hid (by
          rw [rowF_append, List.length_append, HN.out]
          exact hown)
        have HE5 : Hid (Ext w W7) := hid (Ext.only HX.out (grownOnly (S := fun i => w.heap.size ≤ i) hgrow (fun g e => (HO.out.lt g e).1)) (fun i hi => hi))
        clear hown hgrow hat
        go_roundw
        case rel => exact ⟨([] : List Cap) ++ X, by first | exact HO5 | (have h9 := HO5.out; rw [List.length_nil, Nat.zero_add] at h9; exact hid h9), HE5, .inr (.inl ⟨rfl, rfl⟩)⟩
        case measure => simp [intOf]
      · have q0 := (HX.out.cells b 0 hb).trans HK0.out
        have q1 := (HX.out.cells b 1 hb).trans HK1.out
        have hb2 := Nat.lt_of_lt_of_le hb HX.out.size
        go_wp2_with (at_builtin; refine wpList_plain rfl fun K hK => ?_; refine wp_app_row cap_len (by decide) cap_one Try.underlying22 info_capN _ _ rfl w.heap.size _ (X).length (rowF Cap.cells (X)) rfl HO.out B m cb Y rfl HM.out (HY1.out.ext HX.out) (by have h8 := HN.out; unfold maxLen; (try simp only [List.length_nil]); omega) (by have h8 := HN.out; (try simp only [List.length_nil]); omega) HX.out.size ?_; intro v7 W7 hown hgrow hat; obtain ⟨A7, c7, rfl, _, _⟩ := hown.shape; refine hK _ _ ?_; clear hK K)
        have HO5 : Hid (ownsAt W7 w.heap.size 24 6 (.slice A7 ((X).length + m) c7) (X ++ Y).length (rowF Cap.cells (X ++ Y))) := hid (by
          rw [rowF_append, List.length_append, HM.out]
          exact hown)
        have HE5 : Hid (Ext w W7) := hid (Ext.only HX.out (grownOnly (S := fun i => w.heap.size ≤ i) hgrow (fun g e => (HO.out.lt g e).1)) (fun i hi => hi))
        clear hown hgrow hat
        go_roundw
        case rel => exact ⟨X ++ Y, by first | exact HO5 | (have h9 := HO5.out; rw [List.length_nil, Nat.zero_add] at h9; exact hid h9), HE5, .inr (.inr ⟨rfl, rfl⟩)⟩
        case measure => simp [intOf]
      · have hl : (X ++ Y).length = n + m := by rw [List.length_append, HN.out, HM.out]
        go_wp2
        go_ret
        exact ⟨A5, ⟨c5, _, rfl, hl.symm, HO, HX⟩⟩

end Go.Proofs.Ytlapemeoffpmgaa
