/- Layer 11: the live question; what is known of sizes. -/
import Derived.Test.YtgnkcinmpinknaaDoorSizB
namespace Go.Proofs.YtgnkcinmpinknaaDoor
set_option linter.unusedSimpArgs false
set_option linter.unusedVariables false
open Go.RowKit


set_option maxRecDepth 100000 in
set_option maxHeartbeats 4000000 in
theorem head (w : World) (h : Tab w) : Calls Tryd.prog 8 #[] w fun e w' => e = .returned (.bool true) ∧ Ext w w' := by
  have HT := hid h
  clear h
  have e0 : roundT 129 = 192 := by decide
  have e1 : roundB 129 = true := by decide
  have e2 : roundT 1025 = 1280 := by decide
  have e3 : roundB 1025 = true := by decide
  have e4 : roundB 65537 = false := by decide
  have e5 : roundT 0 = 16 := by decide
  have e6 : roundB 0 = true := by decide
  have e7 : classT 129 = 8 := by decide
  have e8 : classT 1025 = 14 := by decide
  have e9 : classT (-1) = -1 := by decide
  go_enter Tryd.func8, Tryd.ntmps8
  go_wp2_with (first | (go_at_call 9; refine (round_ _ _ (Tab.ext HT.out (by repeat (first | (with_reducible exact Ext.refl _) | (with_reducible refine Ext.undrew ?_) | (with_reducible refine Ext.grow ?_ _) | (with_reducible refine Ext.drew ?_) | (with_reducible refine Ext.drewN ?_ _) | (with_reducible refine Ext.alloc ?_ _) | (with_reducible assumption) | ((with_reducible refine Ext.setCell ?_ ?_ _); rotate_left; (first | exact Nat.le_refl _ | ((try dsimp only); (try simp only [World.size_alloc, grow_size, World.size_setCell]); omega))))))).mono ?_; rintro e w1 ⟨rfl, rfl⟩) | (go_at_call 11; refine (class_ _ _ (Tab.ext HT.out (by repeat (first | (with_reducible exact Ext.refl _) | (with_reducible refine Ext.undrew ?_) | (with_reducible refine Ext.grow ?_ _) | (with_reducible refine Ext.drew ?_) | (with_reducible refine Ext.drewN ?_ _) | (with_reducible refine Ext.alloc ?_ _) | (with_reducible assumption) | ((with_reducible refine Ext.setCell ?_ ?_ _); rotate_left; (first | exact Nat.le_refl _ | ((try dsimp only); (try simp only [World.size_alloc, grow_size, World.size_setCell]); omega))))))).mono ?_; rintro e w1 ⟨rfl, rfl⟩) | (go_at_call 14; refine (sizes_ _ (Tab.ext HT.out (by repeat (first | (with_reducible exact Ext.refl _) | (with_reducible refine Ext.undrew ?_) | (with_reducible refine Ext.grow ?_ _) | (with_reducible refine Ext.drew ?_) | (with_reducible refine Ext.drewN ?_ _) | (with_reducible refine Ext.alloc ?_ _) | (with_reducible assumption) | ((with_reducible refine Ext.setCell ?_ ?_ _); rotate_left; (first | exact Nat.le_refl _ | ((try dsimp only); (try simp only [World.size_alloc, grow_size, World.size_setCell]); omega))))))).mono ?_; rintro e w1 ⟨rfl, rfl⟩))
  all_goals go_ret
  all_goals exact ⟨rfl, (by repeat (first | (with_reducible exact Ext.refl _) | (with_reducible refine Ext.undrew ?_) | (with_reducible refine Ext.grow ?_ _) | (with_reducible refine Ext.drew ?_) | (with_reducible refine Ext.drewN ?_ _) | (with_reducible refine Ext.alloc ?_ _) | (with_reducible assumption) | ((with_reducible refine Ext.setCell ?_ ?_ _); rotate_left; (first | exact Nat.le_refl _ | ((try dsimp only); (try simp only [World.size_alloc, grow_size, World.size_setCell]); omega)))))⟩

theorem wfu8 {n : Int} (h : (Lit.int .u8 n).wf = true) : 0 ≤ n ∧ n ≤ 255 := by
  simpa [Lit.wf, IntKind.min, IntKind.max, IntKind.signed, IntKind.bits] using h
theorem wfu16 {n : Int} (h : (Lit.int .u16 n).wf = true) : 0 ≤ n ∧ n ≤ 65535 := by
  simpa [Lit.wf, IntKind.min, IntKind.max, IntKind.signed, IntKind.bits] using h
theorem roundT_bd {n : Int} (h0 : 0 ≤ n) (h1 : n ≤ 65536) : n ≤ roundT n ∧ roundT n ≤ n + 255 ∧ 16 ≤ roundT n ∧ roundT n % 16 = 0 ∧ roundT n ≤ 65536 := by
  unfold roundT
  repeat' split
  all_goals omega
theorem roundT_great {n : Int} (h0 : 1024 < n) (h1 : n ≤ 65536) : roundT n = (n + 255) / 256 * 256 := by
  unfold roundT
  repeat' split
  all_goals omega
theorem roundT_self {n : Int} (h0 : 0 ≤ n) (h1 : n ≤ 65536) : roundT (roundT n) = roundT n := by
  by_cases hg : 1024 < n
  · rw [roundT_great hg h1, roundT_great (by omega) (by omega)]; omega
  · have hT : roundT n = 16 ∨ roundT n = 32 ∨ roundT n = 48 ∨ roundT n = 64 ∨ roundT n = 80 ∨ roundT n = 96 ∨ roundT n = 112 ∨ roundT n = 128 ∨ roundT n = 192 ∨ roundT n = 256 ∨ roundT n = 384 ∨ roundT n = 512 ∨ roundT n = 768 ∨ roundT n = 1024 := by
      unfold roundT
      repeat' split
      all_goals omega
    rcases hT with h | h | h | h | h | h | h | h | h | h | h | h | h | h <;> rw [h] <;> decide
theorem roundT_waste {n : Int} (h0 : 0 < n) (h1 : n ≤ 1024) : roundT n - n < 16 ∨ 2 * (roundT n - n) < n := by
  unfold roundT
  repeat' split
  all_goals omega
theorem classT_at {n : Int} (h0 : 0 ≤ n) (h1 : n ≤ 65536) : (classT n = 0 ∧ n ≤ 16 ∧ roundT n = 16) ∨ (classT n = 1 ∧ 16 < n ∧ n ≤ 32 ∧ roundT n = 32) ∨ (classT n = 2 ∧ 32 < n ∧ n ≤ 48 ∧ roundT n = 48) ∨ (classT n = 3 ∧ 48 < n ∧ n ≤ 64 ∧ roundT n = 64) ∨ (classT n = 4 ∧ 64 < n ∧ n ≤ 80 ∧ roundT n = 80) ∨ (classT n = 5 ∧ 80 < n ∧ n ≤ 96 ∧ roundT n = 96) ∨ (classT n = 6 ∧ 96 < n ∧ n ≤ 112 ∧ roundT n = 112) ∨ (classT n = 7 ∧ 112 < n ∧ n ≤ 128 ∧ roundT n = 128) ∨ (classT n = 8 ∧ 128 < n ∧ n ≤ 192 ∧ roundT n = 192) ∨ (classT n = 9 ∧ 192 < n ∧ n ≤ 256 ∧ roundT n = 256) ∨ (classT n = 10 ∧ 256 < n ∧ n ≤ 384 ∧ roundT n = 384) ∨ (classT n = 11 ∧ 384 < n ∧ n ≤ 512 ∧ roundT n = 512) ∨ (classT n = 12 ∧ 512 < n ∧ n ≤ 768 ∧ roundT n = 768) ∨ (classT n = 13 ∧ 768 < n ∧ n ≤ 1024 ∧ roundT n = 1024) ∨ (classT n = 14 ∧ 1024 < n ∧ roundT n = (n + 255) / 256 * 256) := by
  have h0' : ¬ n < 0 := by omega
  have h1' : ¬ 65536 < n := by omega
  by_cases k0 : n ≤ 16
  · have e1 : classT n = 0 := by unfold classT; rw [if_neg h0', if_neg h1', if_pos k0]
    have e2 : roundT n = 16 := by unfold roundT; rw [if_neg h0', if_neg h1', if_pos k0]
    exact .inl ⟨e1, k0, e2⟩
  by_cases k1 : n ≤ 32
  · have e1 : classT n = 1 := by unfold classT; rw [if_neg h0', if_neg h1', if_neg k0, if_pos k1]
    have e2 : roundT n = 32 := by unfold roundT; rw [if_neg h0', if_neg h1', if_neg k0, if_pos k1]
    exact .inr (.inl ⟨e1, by omega, k1, e2⟩)
  by_cases k2 : n ≤ 48
  · have e1 : classT n = 2 := by unfold classT; rw [if_neg h0', if_neg h1', if_neg k0, if_neg k1, if_pos k2]
    have e2 : roundT n = 48 := by unfold roundT; rw [if_neg h0', if_neg h1', if_neg k0, if_neg k1, if_pos k2]
    exact .inr (.inr (.inl ⟨e1, by omega, k2, e2⟩))
  by_cases k3 : n ≤ 64
  · have e1 : classT n = 3 := by unfold classT; rw [if_neg h0', if_neg h1', if_neg k0, if_neg k1, if_neg k2, if_pos k3]
    have e2 : roundT n = 64 := by unfold roundT; rw [if_neg h0', if_neg h1', if_neg k0, if_neg k1, if_neg k2, if_pos k3]
    exact .inr (.inr (.inr (.inl ⟨e1, by omega, k3, e2⟩)))
  by_cases k4 : n ≤ 80
  · have e1 : classT n = 4 := by unfold classT; rw [if_neg h0', if_neg h1', if_neg k0, if_neg k1, if_neg k2, if_neg k3, if_pos k4]
    have e2 : roundT n = 80 := by unfold roundT; rw [if_neg h0', if_neg h1', if_neg k0, if_neg k1, if_neg k2, if_neg k3, if_pos k4]
    exact .inr (.inr (.inr (.inr (.inl ⟨e1, by omega, k4, e2⟩))))
  by_cases k5 : n ≤ 96
  · have e1 : classT n = 5 := by unfold classT; rw [if_neg h0', if_neg h1', if_neg k0, if_neg k1, if_neg k2, if_neg k3, if_neg k4, if_pos k5]
    have e2 : roundT n = 96 := by unfold roundT; rw [if_neg h0', if_neg h1', if_neg k0, if_neg k1, if_neg k2, if_neg k3, if_neg k4, if_pos k5]
    exact .inr (.inr (.inr (.inr (.inr (.inl ⟨e1, by omega, k5, e2⟩)))))
  by_cases k6 : n ≤ 112
  · have e1 : classT n = 6 := by unfold classT; rw [if_neg h0', if_neg h1', if_neg k0, if_neg k1, if_neg k2, if_neg k3, if_neg k4, if_neg k5, if_pos k6]
    have e2 : roundT n = 112 := by unfold roundT; rw [if_neg h0', if_neg h1', if_neg k0, if_neg k1, if_neg k2, if_neg k3, if_neg k4, if_neg k5, if_pos k6]
    exact .inr (.inr (.inr (.inr (.inr (.inr (.inl ⟨e1, by omega, k6, e2⟩))))))
  by_cases k7 : n ≤ 128
  · have e1 : classT n = 7 := by unfold classT; rw [if_neg h0', if_neg h1', if_neg k0, if_neg k1, if_neg k2, if_neg k3, if_neg k4, if_neg k5, if_neg k6, if_pos k7]
    have e2 : roundT n = 128 := by unfold roundT; rw [if_neg h0', if_neg h1', if_neg k0, if_neg k1, if_neg k2, if_neg k3, if_neg k4, if_neg k5, if_neg k6, if_pos k7]
    exact .inr (.inr (.inr (.inr (.inr (.inr (.inr (.inl ⟨e1, by omega, k7, e2⟩)))))))
  by_cases k8 : n ≤ 192
  · have e1 : classT n = 8 := by unfold classT; rw [if_neg h0', if_neg h1', if_neg k0, if_neg k1, if_neg k2, if_neg k3, if_neg k4, if_neg k5, if_neg k6, if_neg k7, if_pos k8]
    have e2 : roundT n = 192 := by unfold roundT; rw [if_neg h0', if_neg h1', if_neg k0, if_neg k1, if_neg k2, if_neg k3, if_neg k4, if_neg k5, if_neg k6, if_neg k7, if_pos k8]
    exact .inr (.inr (.inr (.inr (.inr (.inr (.inr (.inr (.inl ⟨e1, by omega, k8, e2⟩))))))))
  by_cases k9 : n ≤ 256
  · have e1 : classT n = 9 := by unfold classT; rw [if_neg h0', if_neg h1', if_neg k0, if_neg k1, if_neg k2, if_neg k3, if_neg k4, if_neg k5, if_neg k6, if_neg k7, if_neg k8, if_pos k9]
    have e2 : roundT n = 256 := by unfold roundT; rw [if_neg h0', if_neg h1', if_neg k0, if_neg k1, if_neg k2, if_neg k3, if_neg k4, if_neg k5, if_neg k6, if_neg k7, if_neg k8, if_pos k9]
    exact .inr (.inr (.inr (.inr (.inr (.inr (.inr (.inr (.inr (.inl ⟨e1, by omega, k9, e2⟩)))))))))
  by_cases k10 : n ≤ 384
  · have e1 : classT n = 10 := by unfold classT; rw [if_neg h0', if_neg h1', if_neg k0, if_neg k1, if_neg k2, if_neg k3, if_neg k4, if_neg k5, if_neg k6, if_neg k7, if_neg k8, if_neg k9, if_pos k10]
    have e2 : roundT n = 384 := by unfold roundT; rw [if_neg h0', if_neg h1', if_neg k0, if_neg k1, if_neg k2, if_neg k3, if_neg k4, if_neg k5, if_neg k6, if_neg k7, if_neg k8, if_neg k9, if_pos k10]
    exact .inr (.inr (.inr (.inr (.inr (.inr (.inr (.inr (.inr (.inr (.inl ⟨e1, by omega, k10, e2⟩))))))))))
  by_cases k11 : n ≤ 512
  · have e1 : classT n = 11 := by unfold classT; rw [if_neg h0', if_neg h1', if_neg k0, if_neg k1, if_neg k2, if_neg k3, if_neg k4, if_neg k5, if_neg k6, if_neg k7, if_neg k8, if_neg k9, if_neg k10, if_pos k11]
    have e2 : roundT n = 512 := by unfold roundT; rw [if_neg h0', if_neg h1', if_neg k0, if_neg k1, if_neg k2, if_neg k3, if_neg k4, if_neg k5, if_neg k6, if_neg k7, if_neg k8, if_neg k9, if_neg k10, if_pos k11]
    exact .inr (.inr (.inr (.inr (.inr (.inr (.inr (.inr (.inr (.inr (.inr (.inl ⟨e1, by omega, k11, e2⟩)))))))))))
  by_cases k12 : n ≤ 768
  · have e1 : classT n = 12 := by unfold classT; rw [if_neg h0', if_neg h1', if_neg k0, if_neg k1, if_neg k2, if_neg k3, if_neg k4, if_neg k5, if_neg k6, if_neg k7, if_neg k8, if_neg k9, if_neg k10, if_neg k11, if_pos k12]
    have e2 : roundT n = 768 := by unfold roundT; rw [if_neg h0', if_neg h1', if_neg k0, if_neg k1, if_neg k2, if_neg k3, if_neg k4, if_neg k5, if_neg k6, if_neg k7, if_neg k8, if_neg k9, if_neg k10, if_neg k11, if_pos k12]
    exact .inr (.inr (.inr (.inr (.inr (.inr (.inr (.inr (.inr (.inr (.inr (.inr (.inl ⟨e1, by omega, k12, e2⟩))))))))))))
  by_cases k13 : n ≤ 1024
  · have e1 : classT n = 13 := by unfold classT; rw [if_neg h0', if_neg h1', if_neg k0, if_neg k1, if_neg k2, if_neg k3, if_neg k4, if_neg k5, if_neg k6, if_neg k7, if_neg k8, if_neg k9, if_neg k10, if_neg k11, if_neg k12, if_pos k13]
    have e2 : roundT n = 1024 := by unfold roundT; rw [if_neg h0', if_neg h1', if_neg k0, if_neg k1, if_neg k2, if_neg k3, if_neg k4, if_neg k5, if_neg k6, if_neg k7, if_neg k8, if_neg k9, if_neg k10, if_neg k11, if_neg k12, if_pos k13]
    exact .inr (.inr (.inr (.inr (.inr (.inr (.inr (.inr (.inr (.inr (.inr (.inr (.inr (.inl ⟨e1, by omega, k13, e2⟩)))))))))))))
  have e1 : classT n = 14 := by unfold classT; rw [if_neg h0', if_neg h1', if_neg k0, if_neg k1, if_neg k2, if_neg k3, if_neg k4, if_neg k5, if_neg k6, if_neg k7, if_neg k8, if_neg k9, if_neg k10, if_neg k11, if_neg k12, if_neg k13]
  have e2 : roundT n = (n + 255) / 256 * 256 := by unfold roundT; rw [if_neg h0', if_neg h1', if_neg k0, if_neg k1, if_neg k2, if_neg k3, if_neg k4, if_neg k5, if_neg k6, if_neg k7, if_neg k8, if_neg k9, if_neg k10, if_neg k11, if_neg k12, if_neg k13]
  exact .inr (.inr (.inr (.inr (.inr (.inr (.inr (.inr (.inr (.inr (.inr (.inr (.inr (.inr (⟨e1, by omega, e2⟩))))))))))))))
theorem roundB_yes {n : Int} (h0 : 0 ≤ n) (h1 : n ≤ 65536) : roundB n = true := by unfold roundB; exact decide_eq_true ⟨h0, h1⟩
theorem roundB_no {n : Int} (h1 : 65536 < n) : roundB n = false := by unfold roundB; exact decide_eq_false (by omega)
set_option maxHeartbeats 4000000 in
theorem rises {n m : Int} (h0 : 0 ≤ n) (h : n ≤ m) (h1 : m ≤ 65536) : roundT n ≤ roundT m ∧ classT n ≤ classT m := by
  have a := classT_at h0 (by omega)
  have b := classT_at (show 0 ≤ m by omega) h1
  rcases a with a | a | a | a | a | a | a | a | a | a | a | a | a | a | a <;> omega

end Go.Proofs.YtgnkcinmpinknaaDoor
