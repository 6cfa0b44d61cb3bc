/- Layer 15: the document's Put. -/
import Derived.Test.YtcbniifpbcgamaaCodO
import Derived.Test.YtcbniifpbcgamaaCodS
namespace Go.Proofs.Ytcbniifpbcgamaa
set_option linter.unusedSimpArgs false
set_option linter.unusedVariables false
open Go.RowKit


theorem right_w {op a b c : Int} (h : rightI op a b c = true) : (kstr (kd op)).size = 3 ∧ ((chAt (kstr (kd op)) 1 = 119) = (kd op = 2 ∨ kd op = 5)) ∧ ((kd op = 2 ∨ kd op = 5) → -32768 ≤ b ∧ b ≤ 32767) := by
  unfold rightI at h
  rcases kd_cases op with hk | hk | hk | hk | hk | hk | hk | hk <;> rw [hk] at h ⊢
  · simp [kA] at h
  · refine ⟨by decide, by simp only [show chAt (kstr 1) 1 = 45 from by decide]; simp, ?_⟩
    simp only [kA, kB, kC, fW, Bool.and_eq_true, decide_eq_true_eq] at h
    intro _
    omega
  · refine ⟨by decide, by simp only [show chAt (kstr 2) 1 = 119 from by decide]; simp, ?_⟩
    simp only [kA, kB, kC, fW, Bool.and_eq_true, decide_eq_true_eq] at h
    intro _
    omega
  · refine ⟨by decide, by simp only [show chAt (kstr 3) 1 = 114 from by decide]; simp, ?_⟩
    simp only [kA, kB, kC, fW, Bool.and_eq_true, decide_eq_true_eq] at h
    intro _
    omega
  · refine ⟨by decide, by simp only [show chAt (kstr 4) 1 = 114 from by decide]; simp, ?_⟩
    simp only [kA, kB, kC, fW, Bool.and_eq_true, decide_eq_true_eq] at h
    intro _
    omega
  · refine ⟨by decide, by simp only [show chAt (kstr 5) 1 = 119 from by decide]; simp, ?_⟩
    simp only [kA, kB, kC, fW, Bool.and_eq_true, decide_eq_true_eq] at h
    intro _
    omega
  · refine ⟨by decide, by simp only [show chAt (kstr 6) 1 = 114 from by decide]; simp, ?_⟩
    simp only [kA, kB, kC, fW, Bool.and_eq_true, decide_eq_true_eq] at h
    intro _
    omega
  · refine ⟨by decide, by simp only [show chAt (kstr 7) 1 = 45 from by decide]; simp, ?_⟩
    simp only [kA, kB, kC, fW, Bool.and_eq_true, decide_eq_true_eq] at h
    intro _
    omega
set_option maxHeartbeats 800000 in
theorem rput_no (op a b c : Int) (w : World) (hr : rightI op a b c = false) :
    Calls Try.prog 20 #[.agg #[.int .i64 op, .int .i64 a, .int .i64 b, .int .i64 c]] w fun e w' => e = .returned (.slice none 0 0) ∧ Ext w w' := by
  have HRR := hid hr
  clear hr
  go_enter Try.func20, Try.ntmps20
  go_wp2_with (go_at_call 18; refine (rright op a b c _).mono ?_; rw [HRR.out]; rintro e w1 ⟨rfl, hy⟩; obtain ⟨dr, rfl⟩ := hy.grown; clear hy)
  go_ret
  exact ⟨rfl, (by repeat (first | (with_reducible exact Ext.refl _) | (with_reducible refine Ext.undrew ?_) | (with_reducible refine Ext.grow ?_ _) | (with_reducible refine Ext.drew ?_) | (with_reducible refine Ext.drewN ?_ _) | (with_reducible refine Ext.alloc ?_ _) | (with_reducible assumption) | ((with_reducible refine Ext.setCell ?_ ?_ _); rotate_left; (first | exact Nat.le_refl _ | ((try dsimp only); (try simp only [World.size_alloc, grow_size, World.size_setCell]); omega)))))⟩

set_option maxRecDepth 100000 in
set_option maxHeartbeats 4000000 in
theorem rput_yes (op a b c : Int) (w : World) (hr : rightI op a b c = true) :
    Calls Try.prog 20 #[.agg #[.int .i64 op, .int .i64 a, .int .i64 b, .int .i64 c]] w fun e w' => ∃ q ca, e = .returned (.slice (some ⟨q, 0, none⟩) 4 ca) ∧ 4 ≤ ca ∧ ca ≤ maxLen ∧ w.heap.size ≤ q ∧ RdB w' (some ⟨q, 0, none⟩) (putI op a b c) ∧ Ext w w' := by
  obtain ⟨hs, hw, hb⟩ := right_w hr
  have hK := fun w => rkinds op w
  have i1 : ∀ w, (Instr.index 9 (.string (kstr (kd op))) (.int .i64 1)).run Try.prog w = .ok (.int .u8 (chAt (kstr (kd op)) 1)) w := index_str _ 1 (by omega)
  by_cases hwd : kd op = 2 ∨ kd op = 5
  · have e119 : ((chAt (kstr (kd op)) 1 : Int) == 119) = true := by
      have : chAt (kstr (kd op)) 1 = 119 := by rw [hw]; exact hwd
      rw [this]
      rfl
    obtain ⟨hb1, hb2⟩ := hb hwd
    have HPI := hid (show putI op a b c = [op % 256, a % 256, b / 256 % 256, b % 256] from by unfold putI; rw [if_pos hwd])
    generalize kstr (kd op) = s at hK i1 e119
    have HK := hid hK
    have HRR := hid hr
    clear hs hw hb hK hr hwd
    by_cases hneg : b < 0
    · skip
      go_enter Try.func20, Try.ntmps20
      go_wp2_with (first | (go_at_call 18; refine (rright op a b c _).mono ?_; rw [HRR.out]; rintro e w1 ⟨rfl, hy⟩; obtain ⟨dr, rfl⟩ := hy.grown; clear hy) | (go_at_call 16; refine (HK.out _).mono ?_; rintro e w1 ⟨rfl, rfl⟩))
      go_ret
      refine ⟨_, 4, rfl, Nat.le_refl _, by decide, by (try simp only [grow_size, World.size_alloc]); omega, RdB.of (by simp [grow_size]) (fun j hj => ?_), (by repeat (first | (with_reducible exact Ext.refl _) | (with_reducible refine Ext.undrew ?_) | (with_reducible refine Ext.grow ?_ _) | (with_reducible refine Ext.drew ?_) | (with_reducible refine Ext.drewN ?_ _) | (with_reducible refine Ext.alloc ?_ _) | (with_reducible assumption) | ((with_reducible refine Ext.setCell ?_ ?_ _); rotate_left; (first | exact Nat.le_refl _ | ((try dsimp only); (try simp only [World.size_alloc, grow_size, World.size_setCell]); omega)))))⟩
      rw [putI_length] at hj
      simp only [HPI.out]
      match j, hj with
      | 0, _ => (simp [go_sem] <;> omega)
      | 1, _ => (simp [go_sem] <;> omega)
      | 2, _ => (simp [go_sem] <;> omega)
      | 3, _ => (simp [go_sem] <;> omega)
    · skip
      go_enter Try.func20, Try.ntmps20
      go_wp2_with (first | (go_at_call 18; refine (rright op a b c _).mono ?_; rw [HRR.out]; rintro e w1 ⟨rfl, hy⟩; obtain ⟨dr, rfl⟩ := hy.grown; clear hy) | (go_at_call 16; refine (HK.out _).mono ?_; rintro e w1 ⟨rfl, rfl⟩))
      go_ret
      refine ⟨_, 4, rfl, Nat.le_refl _, by decide, by (try simp only [grow_size, World.size_alloc]); omega, RdB.of (by simp [grow_size]) (fun j hj => ?_), (by repeat (first | (with_reducible exact Ext.refl _) | (with_reducible refine Ext.undrew ?_) | (with_reducible refine Ext.grow ?_ _) | (with_reducible refine Ext.drew ?_) | (with_reducible refine Ext.drewN ?_ _) | (with_reducible refine Ext.alloc ?_ _) | (with_reducible assumption) | ((with_reducible refine Ext.setCell ?_ ?_ _); rotate_left; (first | exact Nat.le_refl _ | ((try dsimp only); (try simp only [World.size_alloc, grow_size, World.size_setCell]); omega)))))⟩
      rw [putI_length] at hj
      simp only [HPI.out]
      match j, hj with
      | 0, _ => (simp [go_sem] <;> omega)
      | 1, _ => (simp [go_sem] <;> omega)
      | 2, _ => (simp [go_sem] <;> omega)
      | 3, _ => (simp [go_sem] <;> omega)
  · have e119 : ((chAt (kstr (kd op)) 1 : Int) == 119) = false := by
      have : ¬ chAt (kstr (kd op)) 1 = 119 := by rw [hw]; exact hwd
      simp
      omega
    have HPI := hid (show putI op a b c = [op % 256, a % 256, b % 256, c % 256] from by unfold putI; rw [if_neg hwd])
    generalize kstr (kd op) = s at hK i1 e119
    have HK := hid hK
    have HRR := hid hr
    clear hs hw hb hK hr hwd
    go_enter Try.func20, Try.ntmps20
    go_wp2_with (first | (go_at_call 18; refine (rright op a b c _).mono ?_; rw [HRR.out]; rintro e w1 ⟨rfl, hy⟩; obtain ⟨dr, rfl⟩ := hy.grown; clear hy) | (go_at_call 16; refine (HK.out _).mono ?_; rintro e w1 ⟨rfl, rfl⟩))
    go_ret
    refine ⟨_, 4, rfl, Nat.le_refl _, by decide, by (try simp only [grow_size, World.size_alloc]); omega, RdB.of (by simp [grow_size]) (fun j hj => ?_), (by repeat (first | (with_reducible exact Ext.refl _) | (with_reducible refine Ext.undrew ?_) | (with_reducible refine Ext.grow ?_ _) | (with_reducible refine Ext.drew ?_) | (with_reducible refine Ext.drewN ?_ _) | (with_reducible refine Ext.alloc ?_ _) | (with_reducible assumption) | ((with_reducible refine Ext.setCell ?_ ?_ _); rotate_left; (first | exact Nat.le_refl _ | ((try dsimp only); (try simp only [World.size_alloc, grow_size, World.size_setCell]); omega)))))⟩
    rw [putI_length] at hj
    simp only [HPI.out]
    match j, hj with
    | 0, _ => (simp [go_sem] <;> omega)
    | 1, _ => (simp [go_sem] <;> omega)
    | 2, _ => (simp [go_sem] <;> omega)
    | 3, _ => (simp [go_sem] <;> omega)


end Go.Proofs.Ytcbniifpbcgamaa
