/- Layer 13: Put. -/
import Derived.Test.YtlbemgkdpagoiaaQuaA
namespace Go.Proofs.Ytlbemgkdpagoiaa
set_option linter.unusedSimpArgs false
set_option linter.unusedVariables false
open Go.RowKit

/-- The time of the one that is held last. -/
def lastT (l : List Hd) : Int := match l.getLast? with
  | some h => h.time
  | none => 0
theorem lastT_nil : lastT [] = 0 := rfl
theorem lastT_at {l : List Hd} {m : Nat} (h : l.length = m + 1) : lastT l = (l[m]'(by omega)).time := by
  have e : l.getLast? = some (l[m]'(by omega)) := by
    rw [List.getLast?_eq_getElem?, show l.length - 1 = m by omega, List.getElem?_eq_getElem (by omega)]
  unfold lastT
  rw [e]
set_option maxRecDepth 100000 in
set_option maxHeartbeats 4000000 in
theorem qsince_ (q base : Nat) (full bytes : Int) (v : Value) (l : List Hd) (w : World) (h : Qs w q base full bytes v l) (hl : l.length ≤ 1000000) : Calls Try.prog 32 #[.pointer (some ⟨q, 0, none⟩)] w fun e w' => e = .returned (.int .i64 (lastT l)) ∧ Ext w w' := by
  obtain ⟨A, ca, rfl, hca, _⟩ := h.2.2.2.1.shape
  obtain ⟨hq, ⟨a0, a1, a2⟩, _, ho, _⟩ := h
  rcases hm : l.length with _ | m
  · obtain rfl : l = [] := List.eq_nil_of_length_eq_zero hm
    have hz : (([] : List Hd).length : Int) = 0 := rfl
    go_enter Try.func32, Try.ntmps32
    go_wp2
    go_ret
    exact ⟨rfl, (by repeat (first | (with_reducible exact Ext.refl _) | (with_reducible refine Ext.undrew ?_) | (with_reducible refine Ext.grow ?_ _) | (with_reducible refine Ext.drew ?_) | (with_reducible refine Ext.drewN ?_ _) | (with_reducible refine Ext.alloc ?_ _) | (with_reducible assumption) | ((with_reducible refine Ext.setCell ?_ ?_ _); rotate_left; (first | exact Nat.le_refl _ | ((try dsimp only); (try simp only [World.size_alloc, grow_size, World.size_setCell]); omega)))))⟩
  · obtain ⟨g, o, rfl, hgb, hg, hcell, _⟩ := ho.at_ rfl (by omega)
    have hT := lastT_at hm
    have hc := hcell (m * 3 + 2) (.int .i64 (lastT l)) (by rw [hT, hdList_at l m 2 (by omega) (by omega)]; rfl)
    rw [hm] at a2 hca
    have hm0 : (0 : Int) ≤ (m : Int) := by omega
    have hm1 : (m : Int) < (m : Int) + 1 := by omega
    have hm2 : ¬ (m : Int) + 1 = 0 := by omega
    have hmb : (m : Int) ≤ 1000000 := by omega
    rw [← Nat.add_assoc] at hc
    generalize lastT l = T at hc
    clear hT hcell ho hm
    go_enter Try.func32, Try.ntmps32
    go_upto_region 3 with (fail)
    refine wp_region_grow (by kernel_rfl) (by kernel_rfl) (by first | (simp only [List.append]; rfl) | rfl) ?_; (repeat (first | ((first | refine quiet_pick_and (by rfl) (by rfl) (by rfl) (by rfl) ?_ | refine quiet_pick_or (by rfl) (by rfl) (by rfl) (by rfl) ?_); simp only [Act.put, List.setIfInBounds_toArray, List.set_cons_zero, List.set_cons_succ]) | go_big_quiet_step (fail) | (refine quiet_guard (v := ?_) (by rfl) (by rfl) (fun hX w hC => ?_) ?_; rotate_left; (obtain ⟨d, rfl⟩ := hC; (try simp only [Bool.and_eq_true, Bool.or_eq_false_iff] at hX); go_split_ands; go_simp; (first | with_reducible rfl | fail)); simp only [Act.put, List.setIfInBounds_toArray, List.set_cons_zero, List.set_cons_succ]))); refine wpQuiet_nil ?_; intro wq hq; obtain ⟨d, rfl⟩ := hq
    go_wp2
    go_ret
    exact ⟨rfl, (by repeat (first | (with_reducible exact Ext.refl _) | (with_reducible refine Ext.undrew ?_) | (with_reducible refine Ext.grow ?_ _) | (with_reducible refine Ext.drew ?_) | (with_reducible refine Ext.drewN ?_ _) | (with_reducible refine Ext.alloc ?_ _) | (with_reducible assumption) | ((with_reducible refine Ext.setCell ?_ ?_ _); rotate_left; (first | exact Nat.le_refl _ | ((try dsimp only); (try simp only [World.size_alloc, grow_size, World.size_setCell]); omega)))))⟩
/-- May it be put? -/
def okQ (l : List Hd) (h : Hd) : Bool := (decide (0 ≤ h.at_) && decide (h.at_ ≤ 16777216)) && (decide (0 ≤ h.n) && decide (h.n ≤ 16777216)) && !decide (h.time < lastT l) && !decide (2199023255552 < h.time)
set_option maxRecDepth 100000 in
set_option maxHeartbeats 4000000 in
theorem qput_no (q base : Nat) (full bytes : Int) (v : Value) (l : List Hd) (w : World) (h : Qs w q base full bytes v l) (hl : l.length ≤ 1000000) (z : Hd) (hok : okQ l z = false) : Calls Try.prog 14 #[.pointer (some ⟨q, 0, none⟩), .agg #[.int .i64 z.at_, .int .i64 z.n, .int .i64 z.time]] w fun e w' => e = .returned (.bool false) ∧ Ext w w' := by
  have HQ := hid h
  clear h
  have hs : ∀ w', Ext w w' → Calls Try.prog 32 #[.pointer (some ⟨q, 0, none⟩)] w' fun e w'' => e = .returned (.int .i64 (lastT l)) ∧ Ext w' w'' := fun w' hx => qsince_ q base full bytes v l w' (HQ.out.ext hx) hl
  cases h1 : (decide (0 ≤ z.at_) && decide (z.at_ ≤ 16777216)) with
  | false =>
    have hw1 : ∀ w', Calls Try.prog 31 #[.int .i64 z.at_] w' fun e w'' => e = .returned (.bool false) ∧ w' = w'' := fun w' => by rw [← h1]; exact (within_ z.at_ w').mono (fun e w'' h => ⟨h.1, h.2.symm⟩)
    go_enter Try.func14, Try.ntmps14
    go_upto_region 1 with (fail)
    refine wp_region_grow (by kernel_rfl) (by kernel_rfl) (by first | (simp only [List.append]; rfl) | rfl) ?_
    (repeat (go_big_quiet_step ((go_at_call 31; exact growOfSame (hw1 _)))))
    refine wpQuiet_nil ?_
    intro wq hq
    obtain ⟨d, rfl⟩ := hq
    go_wp2
    go_ret
    exact ⟨rfl, (by repeat (first | (with_reducible exact Ext.refl _) | (with_reducible refine Ext.undrew ?_) | (with_reducible refine Ext.grow ?_ _) | (with_reducible refine Ext.drew ?_) | (with_reducible refine Ext.drewN ?_ _) | (with_reducible refine Ext.alloc ?_ _) | (with_reducible assumption) | ((with_reducible refine Ext.setCell ?_ ?_ _); rotate_left; (first | exact Nat.le_refl _ | ((try dsimp only); (try simp only [World.size_alloc, grow_size, World.size_setCell]); omega)))))⟩
  | true =>
    cases h2 : (decide (0 ≤ z.n) && decide (z.n ≤ 16777216)) with
    | false =>
      have hw1 : ∀ w', Calls Try.prog 31 #[.int .i64 z.at_] w' fun e w'' => e = .returned (.bool true) ∧ w' = w'' := fun w' => by rw [← h1]; exact (within_ z.at_ w').mono (fun e w'' h => ⟨h.1, h.2.symm⟩)
      have hw2 : ∀ w', Calls Try.prog 31 #[.int .i64 z.n] w' fun e w'' => e = .returned (.bool false) ∧ w' = w'' := fun w' => by rw [← h2]; exact (within_ z.n w').mono (fun e w'' h => ⟨h.1, h.2.symm⟩)
      go_enter Try.func14, Try.ntmps14
      go_upto_region 1 with (fail)
      refine wp_region_grow (by kernel_rfl) (by kernel_rfl) (by first | (simp only [List.append]; rfl) | rfl) ?_
      (repeat (go_big_quiet_step (first | (go_at_call 31; exact growOfSame (hw1 _)) | (go_at_call 31; exact growOfSame (hw2 _)))))
      refine wpQuiet_nil ?_
      intro wq hq
      obtain ⟨d, rfl⟩ := hq
      go_wp2
      go_ret
      exact ⟨rfl, (by repeat (first | (with_reducible exact Ext.refl _) | (with_reducible refine Ext.undrew ?_) | (with_reducible refine Ext.grow ?_ _) | (with_reducible refine Ext.drew ?_) | (with_reducible refine Ext.drewN ?_ _) | (with_reducible refine Ext.alloc ?_ _) | (with_reducible assumption) | ((with_reducible refine Ext.setCell ?_ ?_ _); rotate_left; (first | exact Nat.le_refl _ | ((try dsimp only); (try simp only [World.size_alloc, grow_size, World.size_setCell]); omega)))))⟩
    | true =>
      by_cases h3 : z.time < lastT l
      · have hw1 : ∀ w', Calls Try.prog 31 #[.int .i64 z.at_] w' fun e w'' => e = .returned (.bool true) ∧ w' = w'' := fun w' => by rw [← h1]; exact (within_ z.at_ w').mono (fun e w'' h => ⟨h.1, h.2.symm⟩)
        have hw2 : ∀ w', Calls Try.prog 31 #[.int .i64 z.n] w' fun e w'' => e = .returned (.bool true) ∧ w' = w'' := fun w' => by rw [← h2]; exact (within_ z.n w').mono (fun e w'' h => ⟨h.1, h.2.symm⟩)
        have h3' : z.time < lastT l := h3
        go_enter Try.func14, Try.ntmps14
        go_upto_region 1 with (fail)
        refine wp_region_grow (by kernel_rfl) (by kernel_rfl) (by first | (simp only [List.append]; rfl) | rfl) ?_
        (repeat (go_big_quiet_step (first | (go_at_call 31; exact growOfSame (hw1 _)) | (go_at_call 31; exact growOfSame (hw2 _)) | (go_at_call 32; exact growOf (hs _ (by repeat (first | (with_reducible exact Ext.refl _) | (with_reducible refine Ext.undrew ?_) | (with_reducible refine Ext.grow ?_ _) | (with_reducible refine Ext.drew ?_) | (with_reducible refine Ext.drewN ?_ _) | (with_reducible refine Ext.alloc ?_ _) | (with_reducible assumption) | ((with_reducible refine Ext.setCell ?_ ?_ _); rotate_left; (first | exact Nat.le_refl _ | ((try dsimp only); (try simp only [World.size_alloc, grow_size, World.size_setCell]); omega))))))))))
        refine wpQuiet_nil ?_
        intro wq hq
        obtain ⟨d, rfl⟩ := hq
        go_wp2
        go_ret
        exact ⟨rfl, (by repeat (first | (with_reducible exact Ext.refl _) | (with_reducible refine Ext.undrew ?_) | (with_reducible refine Ext.grow ?_ _) | (with_reducible refine Ext.drew ?_) | (with_reducible refine Ext.drewN ?_ _) | (with_reducible refine Ext.alloc ?_ _) | (with_reducible assumption) | ((with_reducible refine Ext.setCell ?_ ?_ _); rotate_left; (first | exact Nat.le_refl _ | ((try dsimp only); (try simp only [World.size_alloc, grow_size, World.size_setCell]); omega)))))⟩
      · by_cases h4 : (2199023255552 : Int) < z.time
        · have hw1 : ∀ w', Calls Try.prog 31 #[.int .i64 z.at_] w' fun e w'' => e = .returned (.bool true) ∧ w' = w'' := fun w' => by rw [← h1]; exact (within_ z.at_ w').mono (fun e w'' h => ⟨h.1, h.2.symm⟩)
          have hw2 : ∀ w', Calls Try.prog 31 #[.int .i64 z.n] w' fun e w'' => e = .returned (.bool true) ∧ w' = w'' := fun w' => by rw [← h2]; exact (within_ z.n w').mono (fun e w'' h => ⟨h.1, h.2.symm⟩)
          have h3' : ¬ z.time < lastT l := h3
          have h4' : (2199023255552 : Int) < z.time := h4
          go_enter Try.func14, Try.ntmps14
          go_upto_region 1 with (fail)
          refine wp_region_grow (by kernel_rfl) (by kernel_rfl) (by first | (simp only [List.append]; rfl) | rfl) ?_
          (repeat (go_big_quiet_step (first | (go_at_call 31; exact growOfSame (hw1 _)) | (go_at_call 31; exact growOfSame (hw2 _)) | (go_at_call 32; exact growOf (hs _ (by repeat (first | (with_reducible exact Ext.refl _) | (with_reducible refine Ext.undrew ?_) | (with_reducible refine Ext.grow ?_ _) | (with_reducible refine Ext.drew ?_) | (with_reducible refine Ext.drewN ?_ _) | (with_reducible refine Ext.alloc ?_ _) | (with_reducible assumption) | ((with_reducible refine Ext.setCell ?_ ?_ _); rotate_left; (first | exact Nat.le_refl _ | ((try dsimp only); (try simp only [World.size_alloc, grow_size, World.size_setCell]); omega))))))))))
          refine wpQuiet_nil ?_
          intro wq hq
          obtain ⟨d, rfl⟩ := hq
          go_wp2
          go_ret
          exact ⟨rfl, (by repeat (first | (with_reducible exact Ext.refl _) | (with_reducible refine Ext.undrew ?_) | (with_reducible refine Ext.grow ?_ _) | (with_reducible refine Ext.drew ?_) | (with_reducible refine Ext.drewN ?_ _) | (with_reducible refine Ext.alloc ?_ _) | (with_reducible assumption) | ((with_reducible refine Ext.setCell ?_ ?_ _); rotate_left; (first | exact Nat.le_refl _ | ((try dsimp only); (try simp only [World.size_alloc, grow_size, World.size_setCell]); omega)))))⟩
        · exact absurd hok (by simp [okQ, h1, h2, h3, h4])

end Go.Proofs.Ytlbemgkdpagoiaa
