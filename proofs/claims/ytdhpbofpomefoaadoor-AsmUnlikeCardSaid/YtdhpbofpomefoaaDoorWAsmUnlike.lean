/- The walk of AsmUnlike. -/
import Derived.Test.YtdhpbofpomefoaaDoorAsmU0
namespace Go.Proofs.YtdhpbofpomefoaaDoor
set_option linter.unusedSimpArgs false
set_option linter.unusedVariables false
open Go.RowKit

open Go.Deep Go.RowKit
namespace asmUnlike
set_option linter.unusedSimpArgs false
set_option linter.unusedVariables false
set_option maxRecDepth 100000 in
set_option maxHeartbeats 8000000 in
theorem walk (op0 ra0 rb0 rc0 : Int) (op1 ra1 rb1 rc1 : Int) (w : World) (wop0 : (Lit.int .i64 op0).wf = true) (wra0 : (Lit.int .i64 ra0).wf = true) (wrb0 : (Lit.int .i64 rb0).wf = true) (wrc0 : (Lit.int .i64 rc0).wf = true) (wop1 : (Lit.int .i64 op1).wf = true) (wra1 : (Lit.int .i64 ra1).wf = true) (wrb1 : (Lit.int .i64 rb1).wf = true) (wrc1 : (Lit.int .i64 rc1).wf = true) (hTab : Tb w) :
    Calls Tryd.prog 7 #[.agg #[.int .i64 op0, .int .i64 ra0, .int .i64 rb0, .int .i64 rc0], .agg #[.int .i64 op1, .int .i64 ra1, .int .i64 rb1, .int .i64 rc1]] w fun e w' => e = .returned (.bool true) ∧ Ext w w' := by
  have HT := hid hTab
  clear hTab
  cases h0 : rightI op0 ra0 rb0 rc0 with
  | false =>
    cases h1 : rightI op1 ra1 rb1 rc1 with
    | false =>
      have HRX := hid h0
      have HRY := hid h1
      go_enter Tryd.func7, Tryd.ntmps7
      go_wp2_with (first | (go_at_call 9; refine (head_ _ (HT.out.ext (by repeat (first | (with_reducible exact Ext.refl _) | (with_reducible refine Ext.undrew ?_) | (with_reducible refine Ext.grow ?_ _) | (with_reducible refine Ext.drew ?_) | (with_reducible refine Ext.drewN ?_ _) | (with_reducible refine Ext.alloc ?_ _) | (with_reducible assumption) | ((with_reducible refine Ext.setCell ?_ ?_ _); rotate_left; (first | exact Nat.le_refl _ | ((try dsimp only); (try simp only [World.size_alloc, grow_size, World.size_setCell]); omega))))))).mono ?_; rintro e wh ⟨rfl, hy⟩; obtain ⟨dh, rfl⟩ := hy.grown; clear hy) | (go_at_call 21; with_reducible refine Calls.mono (rright15 op0 ra0 rb0 rc0 _) ?_; rw [HRX.out]; rintro e w1 ⟨rfl, hy⟩; obtain ⟨d1, rfl⟩ := hy.grown; clear hy) | (go_at_call 21; with_reducible refine Calls.mono (rright15 op1 ra1 rb1 rc1 _) ?_; rw [HRY.out]; rintro e w1 ⟨rfl, hy⟩; obtain ⟨d2, rfl⟩ := hy.grown; clear hy))
      go_ret
      exact ⟨rfl, (by repeat (first | (with_reducible exact Ext.refl _) | (with_reducible refine Ext.undrew ?_) | (with_reducible refine Ext.grow ?_ _) | (with_reducible refine Ext.drew ?_) | (with_reducible refine Ext.drewN ?_ _) | (with_reducible refine Ext.alloc ?_ _) | (with_reducible assumption) | ((with_reducible refine Ext.setCell ?_ ?_ _); rotate_left; (first | exact Nat.le_refl _ | ((try dsimp only); (try simp only [World.size_alloc, grow_size, World.size_setCell]); omega)))))⟩
    | true =>
      have HRX := hid h0
      have HRY := hid h1
      go_enter Tryd.func7, Tryd.ntmps7
      go_wp2_with (first | (go_at_call 9; refine (head_ _ (HT.out.ext (by repeat (first | (with_reducible exact Ext.refl _) | (with_reducible refine Ext.undrew ?_) | (with_reducible refine Ext.grow ?_ _) | (with_reducible refine Ext.drew ?_) | (with_reducible refine Ext.drewN ?_ _) | (with_reducible refine Ext.alloc ?_ _) | (with_reducible assumption) | ((with_reducible refine Ext.setCell ?_ ?_ _); rotate_left; (first | exact Nat.le_refl _ | ((try dsimp only); (try simp only [World.size_alloc, grow_size, World.size_setCell]); omega))))))).mono ?_; rintro e wh ⟨rfl, hy⟩; obtain ⟨dh, rfl⟩ := hy.grown; clear hy) | (go_at_call 21; with_reducible refine Calls.mono (rright15 op0 ra0 rb0 rc0 _) ?_; rw [HRX.out]; rintro e w1 ⟨rfl, hy⟩; obtain ⟨d1, rfl⟩ := hy.grown; clear hy) | (go_at_call 21; with_reducible refine Calls.mono (rright15 op1 ra1 rb1 rc1 _) ?_; rw [HRY.out]; rintro e w1 ⟨rfl, hy⟩; obtain ⟨d2, rfl⟩ := hy.grown; clear hy))
      go_ret
      exact ⟨rfl, (by repeat (first | (with_reducible exact Ext.refl _) | (with_reducible refine Ext.undrew ?_) | (with_reducible refine Ext.grow ?_ _) | (with_reducible refine Ext.drew ?_) | (with_reducible refine Ext.drewN ?_ _) | (with_reducible refine Ext.alloc ?_ _) | (with_reducible assumption) | ((with_reducible refine Ext.setCell ?_ ?_ _); rotate_left; (first | exact Nat.le_refl _ | ((try dsimp only); (try simp only [World.size_alloc, grow_size, World.size_setCell]); omega)))))⟩
  | true =>
    cases h1 : rightI op1 ra1 rb1 rc1 with
    | false =>
      have HRX := hid h0
      have HRY := hid h1
      go_enter Tryd.func7, Tryd.ntmps7
      go_wp2_with (first | (go_at_call 9; refine (head_ _ (HT.out.ext (by repeat (first | (with_reducible exact Ext.refl _) | (with_reducible refine Ext.undrew ?_) | (with_reducible refine Ext.grow ?_ _) | (with_reducible refine Ext.drew ?_) | (with_reducible refine Ext.drewN ?_ _) | (with_reducible refine Ext.alloc ?_ _) | (with_reducible assumption) | ((with_reducible refine Ext.setCell ?_ ?_ _); rotate_left; (first | exact Nat.le_refl _ | ((try dsimp only); (try simp only [World.size_alloc, grow_size, World.size_setCell]); omega))))))).mono ?_; rintro e wh ⟨rfl, hy⟩; obtain ⟨dh, rfl⟩ := hy.grown; clear hy) | (go_at_call 21; with_reducible refine Calls.mono (rright15 op0 ra0 rb0 rc0 _) ?_; rw [HRX.out]; rintro e w1 ⟨rfl, hy⟩; obtain ⟨d1, rfl⟩ := hy.grown; clear hy) | (go_at_call 21; with_reducible refine Calls.mono (rright15 op1 ra1 rb1 rc1 _) ?_; rw [HRY.out]; rintro e w1 ⟨rfl, hy⟩; obtain ⟨d2, rfl⟩ := hy.grown; clear hy))
      go_ret
      exact ⟨rfl, (by repeat (first | (with_reducible exact Ext.refl _) | (with_reducible refine Ext.undrew ?_) | (with_reducible refine Ext.grow ?_ _) | (with_reducible refine Ext.drew ?_) | (with_reducible refine Ext.drewN ?_ _) | (with_reducible refine Ext.alloc ?_ _) | (with_reducible assumption) | ((with_reducible refine Ext.setCell ?_ ?_ _); rotate_left; (first | exact Nat.le_refl _ | ((try dsimp only); (try simp only [World.size_alloc, grow_size, World.size_setCell]); omega)))))⟩
    | true =>
      clear wop0 wra0 wrb0 wrc0 wop1 wra1 wrb1 wrc1
      by_cases e0 : op0 = op1
      · subst e0
        by_cases e1 : ra0 = ra1
        · subst e1
          by_cases e2 : rb0 = rb1
          · subst e2
            by_cases e3 : rc0 = rc1
            · subst e3
              have HRX := hid h0
              have HRY := hid h1
              obtain ⟨rr, hrr⟩ := text_head h0
              have hle : (⟨(nameL op0).toArray⟩ : ByteArray).size ≤ (⟨(textL op0 ra0 rb0 rc0).toArray⟩ : ByteArray).size := by
                show (nameL op0).toArray.size ≤ (textL op0 ra0 rb0 rc0).toArray.size
                rw [List.size_toArray, List.size_toArray, hrr, List.length_append]
                omega
              have hext : (⟨(textL op0 ra0 rb0 rc0).toArray⟩ : ByteArray).extract 0 (⟨(nameL op0).toArray⟩ : ByteArray).size = ⟨(nameL op0).toArray⟩ := by rw [hrr]; exact ext_name
              have hTX : ∀ W, Ext w W → Calls Tryd.prog 14 #[.agg #[.int .i64 op0, .int .i64 ra0, .int .i64 rb0, .int .i64 rc0]] W fun e w' => e = .returned (.string ⟨(textL op0 ra0 rb0 rc0).toArray⟩) ∧ Ext W w' := fun W hx => text_ op0 ra0 rb0 rc0 W (HT.out.ext hx)
              have hNX : ∀ W, Ext w W → Calls Tryd.prog 12 #[.int .i64 op0] W fun e w' => e = .returned (.string ⟨(nameL op0).toArray⟩) ∧ Ext W w' := fun W hx => name_ op0 W (HT.out.ext hx)
              obtain ⟨s, hs⟩ : ∃ t : ByteArray, (⟨(textL op0 ra0 rb0 rc0).toArray⟩ : ByteArray) = t := ⟨_, rfl⟩
              obtain ⟨n, hn⟩ : ∃ t : ByteArray, (⟨(nameL op0).toArray⟩ : ByteArray) = t := ⟨_, rfl⟩
              rw [hs] at hle hext hTX
              rw [hn] at hle hext hNX
              have HTX := hid hTX
              have HNX := hid hNX
              have hle1 : ((n.size : Nat) : Int) ≤ (s.size : Int) := by omega
              have hle2 : ¬ (s.size : Int) < (n.size : Int) := by omega
              have hle0 : (0 : Int) ≤ (n.size : Int) := by omega
              clear hs hn hTX hNX hrr h0 h1 hle
              go_enter Tryd.func7, Tryd.ntmps7
              go_upto_region 1 with (fail)
              refine wp_gen (fun V => Hid (Ext w V) ∧ Hid (Row V w.heap.size 0 [.int .i64 op0, .int .i64 ra0, .int .i64 rb0, .int .i64 rc0]) ∧ Hid (Row V (w.heap.size + 1) 0 [.int .i64 op0, .int .i64 ra0, .int .i64 rb0, .int .i64 rc0])) ⟨hid (by repeat (first | (with_reducible exact Ext.refl _) | (with_reducible refine Ext.undrew ?_) | (with_reducible refine Ext.grow ?_ _) | (with_reducible refine Ext.drew ?_) | (with_reducible refine Ext.drewN ?_ _) | (with_reducible refine Ext.alloc ?_ _) | (with_reducible assumption) | ((with_reducible refine Ext.setCell ?_ ?_ _); rotate_left; (first | exact Nat.le_refl _ | ((try dsimp only); (try simp only [World.size_alloc, grow_size, World.size_setCell]); omega))))), hid ((Row.new w _ _).ext (Ext.alloc (Ext.refl _) _)), hid (by have := Row.new (w.alloc (.cells #[.int .i64 op0, .int .i64 ra0, .int .i64 rb0, .int .i64 rc0] 23)) #[.int .i64 op0, .int .i64 ra0, .int .i64 rb0, .int .i64 rc0] 23; rw [World.size_alloc] at this; exact this)⟩ ?_
              rintro V0 ⟨HX0, HRA, HRB⟩
              generalize w.heap.size = bx at HRA HRB ⊢
              generalize bx + 1 = bz at HRB ⊢
              have hxx := HX0.out
              go_upto_region 2 with (go_at_call 9; refine (head_ _ (HT.out.ext (by repeat (first | (with_reducible exact Ext.refl _) | (with_reducible refine Ext.undrew ?_) | (with_reducible refine Ext.grow ?_ _) | (with_reducible refine Ext.drew ?_) | (with_reducible refine Ext.drewN ?_ _) | (with_reducible refine Ext.alloc ?_ _) | (with_reducible assumption) | ((with_reducible refine Ext.setCell ?_ ?_ _); rotate_left; (first | exact Nat.le_refl _ | ((try dsimp only); (try simp only [World.size_alloc, grow_size, World.size_setCell]); omega))))))).mono ?_; rintro e wh ⟨rfl, hy⟩; obtain ⟨dh, rfl⟩ := hy.grown; clear hy)
              refine wp_gen (fun V => Hid (Ext w V) ∧ Hid (Row V bx 0 [.int .i64 op0, .int .i64 ra0, .int .i64 rb0, .int .i64 rc0]) ∧ Hid (Row V bz 0 [.int .i64 op0, .int .i64 ra0, .int .i64 rb0, .int .i64 rc0])) ⟨hid (by repeat (first | (with_reducible exact Ext.refl _) | (with_reducible refine Ext.undrew ?_) | (with_reducible refine Ext.grow ?_ _) | (with_reducible refine Ext.drew ?_) | (with_reducible refine Ext.drewN ?_ _) | (with_reducible refine Ext.alloc ?_ _) | (with_reducible assumption) | ((with_reducible refine Ext.setCell ?_ ?_ _); rotate_left; (first | exact Nat.le_refl _ | ((try dsimp only); (try simp only [World.size_alloc, grow_size, World.size_setCell]); omega))))), hid (HRA.out.ext (by repeat (first | (with_reducible exact Ext.refl _) | (with_reducible refine Ext.undrew ?_) | (with_reducible refine Ext.grow ?_ _) | (with_reducible refine Ext.drew ?_) | (with_reducible refine Ext.drewN ?_ _) | (with_reducible refine Ext.alloc ?_ _) | (with_reducible assumption) | ((with_reducible refine Ext.setCell ?_ ?_ _); rotate_left; (first | exact Nat.le_refl _ | ((try dsimp only); (try simp only [World.size_alloc, grow_size, World.size_setCell]); omega)))))), hid (HRB.out.ext (by repeat (first | (with_reducible exact Ext.refl _) | (with_reducible refine Ext.undrew ?_) | (with_reducible refine Ext.grow ?_ _) | (with_reducible refine Ext.drew ?_) | (with_reducible refine Ext.drewN ?_ _) | (with_reducible refine Ext.alloc ?_ _) | (with_reducible assumption) | ((with_reducible refine Ext.setCell ?_ ?_ _); rotate_left; (first | exact Nat.le_refl _ | ((try dsimp only); (try simp only [World.size_alloc, grow_size, World.size_setCell]); omega))))))⟩ ?_
              clear hxx HX0 HRA HRB
              rintro V1 ⟨HX1, HRA, HRB⟩
              have hxx := HX1.out
              have x0 : World.cell? V1 ⟨bx, 0, none⟩ = some (.int .i64 op0) := by have := HRA.out.at_ 0 _ rfl; simpa using this
              have x1 : World.cell? V1 ⟨bx, 1, none⟩ = some (.int .i64 ra0) := by have := HRA.out.at_ 1 _ rfl; simpa using this
              have x2 : World.cell? V1 ⟨bx, 2, none⟩ = some (.int .i64 rb0) := by have := HRA.out.at_ 2 _ rfl; simpa using this
              have x3 : World.cell? V1 ⟨bx, 3, none⟩ = some (.int .i64 rc0) := by have := HRA.out.at_ 3 _ rfl; simpa using this
              have xl := HRA.out.lt
              have y0 : World.cell? V1 ⟨bz, 0, none⟩ = some (.int .i64 op0) := by have := HRB.out.at_ 0 _ rfl; simpa using this
              have y1 : World.cell? V1 ⟨bz, 1, none⟩ = some (.int .i64 ra0) := by have := HRB.out.at_ 1 _ rfl; simpa using this
              have y2 : World.cell? V1 ⟨bz, 2, none⟩ = some (.int .i64 rb0) := by have := HRB.out.at_ 2 _ rfl; simpa using this
              have y3 : World.cell? V1 ⟨bz, 3, none⟩ = some (.int .i64 rc0) := by have := HRB.out.at_ 3 _ rfl; simpa using this
              have yl := HRB.out.lt
              go_upto_region 4 with (first | (go_at_call 21; with_reducible refine Calls.mono (rright15 op0 ra0 rb0 rc0 _) ?_; rw [HRX.out]; rintro e w1 ⟨rfl, hy⟩; obtain ⟨d1, rfl⟩ := hy.grown; clear hy) | (go_at_call 21; with_reducible refine Calls.mono (rright15 op0 ra0 rb0 rc0 _) ?_; rw [HRY.out]; rintro e w1 ⟨rfl, hy⟩; obtain ⟨d2, rfl⟩ := hy.grown; clear hy))
              refine wp_gen (fun V => Hid (Ext w V) ∧ Hid (Row V bx 0 [.int .i64 op0, .int .i64 ra0, .int .i64 rb0, .int .i64 rc0]) ∧ Hid (Row V bz 0 [.int .i64 op0, .int .i64 ra0, .int .i64 rb0, .int .i64 rc0])) ⟨hid (by repeat (first | (with_reducible exact Ext.refl _) | (with_reducible refine Ext.undrew ?_) | (with_reducible refine Ext.grow ?_ _) | (with_reducible refine Ext.drew ?_) | (with_reducible refine Ext.drewN ?_ _) | (with_reducible refine Ext.alloc ?_ _) | (with_reducible assumption) | ((with_reducible refine Ext.setCell ?_ ?_ _); rotate_left; (first | exact Nat.le_refl _ | ((try dsimp only); (try simp only [World.size_alloc, grow_size, World.size_setCell]); omega))))), hid (HRA.out.ext (by repeat (first | (with_reducible exact Ext.refl _) | (with_reducible refine Ext.undrew ?_) | (with_reducible refine Ext.grow ?_ _) | (with_reducible refine Ext.drew ?_) | (with_reducible refine Ext.drewN ?_ _) | (with_reducible refine Ext.alloc ?_ _) | (with_reducible assumption) | ((with_reducible refine Ext.setCell ?_ ?_ _); rotate_left; (first | exact Nat.le_refl _ | ((try dsimp only); (try simp only [World.size_alloc, grow_size, World.size_setCell]); omega)))))), hid (HRB.out.ext (by repeat (first | (with_reducible exact Ext.refl _) | (with_reducible refine Ext.undrew ?_) | (with_reducible refine Ext.grow ?_ _) | (with_reducible refine Ext.drew ?_) | (with_reducible refine Ext.drewN ?_ _) | (with_reducible refine Ext.alloc ?_ _) | (with_reducible assumption) | ((with_reducible refine Ext.setCell ?_ ?_ _); rotate_left; (first | exact Nat.le_refl _ | ((try dsimp only); (try simp only [World.size_alloc, grow_size, World.size_setCell]); omega))))))⟩ ?_
              clear hxx HX1 HRA HRB x0 x1 x2 x3 xl y0 y1 y2 y3 yl
              rintro V2 ⟨HX2, HRA, HRB⟩
              have hxx := HX2.out
              have x0 : World.cell? V2 ⟨bx, 0, none⟩ = some (.int .i64 op0) := by have := HRA.out.at_ 0 _ rfl; simpa using this
              have x1 : World.cell? V2 ⟨bx, 1, none⟩ = some (.int .i64 ra0) := by have := HRA.out.at_ 1 _ rfl; simpa using this
              have x2 : World.cell? V2 ⟨bx, 2, none⟩ = some (.int .i64 rb0) := by have := HRA.out.at_ 2 _ rfl; simpa using this
              have x3 : World.cell? V2 ⟨bx, 3, none⟩ = some (.int .i64 rc0) := by have := HRA.out.at_ 3 _ rfl; simpa using this
              have xl := HRA.out.lt
              go_upto_region 6 with (first | (go_at_call 14; refine (HTX.out _ (by repeat (first | (with_reducible exact Ext.refl _) | (with_reducible refine Ext.undrew ?_) | (with_reducible refine Ext.grow ?_ _) | (with_reducible refine Ext.drew ?_) | (with_reducible refine Ext.drewN ?_ _) | (with_reducible refine Ext.alloc ?_ _) | (with_reducible assumption) | ((with_reducible refine Ext.setCell ?_ ?_ _); rotate_left; (first | exact Nat.le_refl _ | ((try dsimp only); (try simp only [World.size_alloc, grow_size, World.size_setCell]); omega)))))).mono ?_; rintro e w1 ⟨rfl, hy⟩; obtain ⟨d3, rfl⟩ := hy.grown; clear hy) | (go_at_call 12; refine (HNX.out _ (by repeat (first | (with_reducible exact Ext.refl _) | (with_reducible refine Ext.undrew ?_) | (with_reducible refine Ext.grow ?_ _) | (with_reducible refine Ext.drew ?_) | (with_reducible refine Ext.drewN ?_ _) | (with_reducible refine Ext.alloc ?_ _) | (with_reducible assumption) | ((with_reducible refine Ext.setCell ?_ ?_ _); rotate_left; (first | exact Nat.le_refl _ | ((try dsimp only); (try simp only [World.size_alloc, grow_size, World.size_setCell]); omega)))))).mono ?_; rintro e w1 ⟨rfl, hy⟩; obtain ⟨d4, rfl⟩ := hy.grown; clear hy))
              refine wp_gen (fun V => Hid (Ext w V) ∧ Hid (Row V bx 0 [.int .i64 op0, .int .i64 ra0, .int .i64 rb0, .int .i64 rc0]) ∧ Hid (Row V bz 0 [.int .i64 op0, .int .i64 ra0, .int .i64 rb0, .int .i64 rc0])) ⟨hid (by repeat (first | (with_reducible exact Ext.refl _) | (with_reducible refine Ext.undrew ?_) | (with_reducible refine Ext.grow ?_ _) | (with_reducible refine Ext.drew ?_) | (with_reducible refine Ext.drewN ?_ _) | (with_reducible refine Ext.alloc ?_ _) | (with_reducible assumption) | ((with_reducible refine Ext.setCell ?_ ?_ _); rotate_left; (first | exact Nat.le_refl _ | ((try dsimp only); (try simp only [World.size_alloc, grow_size, World.size_setCell]); omega))))), hid (HRA.out.ext (by repeat (first | (with_reducible exact Ext.refl _) | (with_reducible refine Ext.undrew ?_) | (with_reducible refine Ext.grow ?_ _) | (with_reducible refine Ext.drew ?_) | (with_reducible refine Ext.drewN ?_ _) | (with_reducible refine Ext.alloc ?_ _) | (with_reducible assumption) | ((with_reducible refine Ext.setCell ?_ ?_ _); rotate_left; (first | exact Nat.le_refl _ | ((try dsimp only); (try simp only [World.size_alloc, grow_size, World.size_setCell]); omega)))))), hid (HRB.out.ext (by repeat (first | (with_reducible exact Ext.refl _) | (with_reducible refine Ext.undrew ?_) | (with_reducible refine Ext.grow ?_ _) | (with_reducible refine Ext.drew ?_) | (with_reducible refine Ext.drewN ?_ _) | (with_reducible refine Ext.alloc ?_ _) | (with_reducible assumption) | ((with_reducible refine Ext.setCell ?_ ?_ _); rotate_left; (first | exact Nat.le_refl _ | ((try dsimp only); (try simp only [World.size_alloc, grow_size, World.size_setCell]); omega))))))⟩ ?_
              clear hxx HX2 HRA HRB x0 x1 x2 x3 xl
              rintro V3 ⟨HX3, HRA, HRB⟩
              have hxx := HX3.out
              have x0 : World.cell? V3 ⟨bx, 0, none⟩ = some (.int .i64 op0) := by have := HRA.out.at_ 0 _ rfl; simpa using this
              have x1 : World.cell? V3 ⟨bx, 1, none⟩ = some (.int .i64 ra0) := by have := HRA.out.at_ 1 _ rfl; simpa using this
              have x2 : World.cell? V3 ⟨bx, 2, none⟩ = some (.int .i64 rb0) := by have := HRA.out.at_ 2 _ rfl; simpa using this
              have x3 : World.cell? V3 ⟨bx, 3, none⟩ = some (.int .i64 rc0) := by have := HRA.out.at_ 3 _ rfl; simpa using this
              have xl := HRA.out.lt
              have y0 : World.cell? V3 ⟨bz, 0, none⟩ = some (.int .i64 op0) := by have := HRB.out.at_ 0 _ rfl; simpa using this
              have y1 : World.cell? V3 ⟨bz, 1, none⟩ = some (.int .i64 ra0) := by have := HRB.out.at_ 1 _ rfl; simpa using this
              have y2 : World.cell? V3 ⟨bz, 2, none⟩ = some (.int .i64 rb0) := by have := HRB.out.at_ 2 _ rfl; simpa using this
              have y3 : World.cell? V3 ⟨bz, 3, none⟩ = some (.int .i64 rc0) := by have := HRB.out.at_ 3 _ rfl; simpa using this
              have yl := HRB.out.lt
              have hB : decide (op0 = op0 ∧ ra0 = ra0 ∧ rb0 = rb0 ∧ rc0 = rc0) = true := by simp
              refine wp_region_grow (by kernel_rfl) (by kernel_rfl) (by first | (simp only [List.append]; rfl) | rfl) ?_
              (repeat (go_big_quiet_step (first | (go_at_call 14; exact growOf (HTX.out _ (by repeat (first | (with_reducible exact Ext.refl _) | (with_reducible refine Ext.undrew ?_) | (with_reducible refine Ext.grow ?_ _) | (with_reducible refine Ext.drew ?_) | (with_reducible refine Ext.drewN ?_ _) | (with_reducible refine Ext.alloc ?_ _) | (with_reducible assumption) | ((with_reducible refine Ext.setCell ?_ ?_ _); rotate_left; (first | exact Nat.le_refl _ | ((try dsimp only); (try simp only [World.size_alloc, grow_size, World.size_setCell]); omega))))))) | (go_at_call 12; exact growOf (HNX.out _ (by repeat (first | (with_reducible exact Ext.refl _) | (with_reducible refine Ext.undrew ?_) | (with_reducible refine Ext.grow ?_ _) | (with_reducible refine Ext.drew ?_) | (with_reducible refine Ext.drewN ?_ _) | (with_reducible refine Ext.alloc ?_ _) | (with_reducible assumption) | ((with_reducible refine Ext.setCell ?_ ?_ _); rotate_left; (first | exact Nat.le_refl _ | ((try dsimp only); (try simp only [World.size_alloc, grow_size, World.size_setCell]); omega))))))))))
              refine wpQuiet_nil ?_
              intro wq hq
              obtain ⟨d9, rfl⟩ := hq
              go_wp2
              go_ret
              exact ⟨rfl, (by repeat (first | (with_reducible exact Ext.refl _) | (with_reducible refine Ext.undrew ?_) | (with_reducible refine Ext.grow ?_ _) | (with_reducible refine Ext.drew ?_) | (with_reducible refine Ext.drewN ?_ _) | (with_reducible refine Ext.alloc ?_ _) | (with_reducible assumption) | ((with_reducible refine Ext.setCell ?_ ?_ _); rotate_left; (first | exact Nat.le_refl _ | ((try dsimp only); (try simp only [World.size_alloc, grow_size, World.size_setCell]); omega)))))⟩
            · skip
              have HRX := hid h0
              have HRY := hid h1
              obtain ⟨rr, hrr⟩ := text_head h0
              have hle : (⟨(nameL op0).toArray⟩ : ByteArray).size ≤ (⟨(textL op0 ra0 rb0 rc0).toArray⟩ : ByteArray).size := by
                show (nameL op0).toArray.size ≤ (textL op0 ra0 rb0 rc0).toArray.size
                rw [List.size_toArray, List.size_toArray, hrr, List.length_append]
                omega
              have hext : (⟨(textL op0 ra0 rb0 rc0).toArray⟩ : ByteArray).extract 0 (⟨(nameL op0).toArray⟩ : ByteArray).size = ⟨(nameL op0).toArray⟩ := by rw [hrr]; exact ext_name
              have hTX : ∀ W, Ext w W → Calls Tryd.prog 14 #[.agg #[.int .i64 op0, .int .i64 ra0, .int .i64 rb0, .int .i64 rc0]] W fun e w' => e = .returned (.string ⟨(textL op0 ra0 rb0 rc0).toArray⟩) ∧ Ext W w' := fun W hx => text_ op0 ra0 rb0 rc0 W (HT.out.ext hx)
              have hNX : ∀ W, Ext w W → Calls Tryd.prog 12 #[.int .i64 op0] W fun e w' => e = .returned (.string ⟨(nameL op0).toArray⟩) ∧ Ext W w' := fun W hx => name_ op0 W (HT.out.ext hx)
              have hTY : ∀ W, Ext w W → Calls Tryd.prog 14 #[.agg #[.int .i64 op0, .int .i64 ra0, .int .i64 rb0, .int .i64 rc1]] W fun e w' => e = .returned (.string ⟨(textL op0 ra0 rb0 rc1).toArray⟩) ∧ Ext W w' := fun W hx => text_ op0 ra0 rb0 rc1 W (HT.out.ext hx)
              have hne := text_ne_of (x := ⟨op0, ra0, rb0, rc0⟩) (y := ⟨op0, ra0, rb0, rc1⟩) h0 h1 (fun e => e3 (In.mk.inj e).2.2.2)
              have hs1 := bs_eq (textL op0 ra0 rb0 rc0) (textL op0 ra0 rb0 rc1)
              have hs2 := bs_eqL (textL op0 ra0 rb0 rc0) (textL op0 ra0 rb0 rc1)
              rw [decide_eq_false hne] at hs1 hs2
              obtain ⟨t, ht⟩ : ∃ t : ByteArray, (⟨(textL op0 ra0 rb0 rc1).toArray⟩ : ByteArray) = t := ⟨_, rfl⟩
              rw [ht] at hs1 hs2 hTY
              have HTY := hid hTY
              clear hTY ht hne
              obtain ⟨s, hs⟩ : ∃ t : ByteArray, (⟨(textL op0 ra0 rb0 rc0).toArray⟩ : ByteArray) = t := ⟨_, rfl⟩
              obtain ⟨n, hn⟩ : ∃ t : ByteArray, (⟨(nameL op0).toArray⟩ : ByteArray) = t := ⟨_, rfl⟩
              rw [hs] at hle hext hTX hs1 hs2
              rw [hn] at hle hext hNX
              have HTX := hid hTX
              have HNX := hid hNX
              have hle1 : ((n.size : Nat) : Int) ≤ (s.size : Int) := by omega
              have hle2 : ¬ (s.size : Int) < (n.size : Int) := by omega
              have hle0 : (0 : Int) ≤ (n.size : Int) := by omega
              clear hs hn hTX hNX hrr h0 h1 hle
              go_enter Tryd.func7, Tryd.ntmps7
              go_upto_region 1 with (fail)
              refine wp_gen (fun V => Hid (Ext w V) ∧ Hid (Row V w.heap.size 0 [.int .i64 op0, .int .i64 ra0, .int .i64 rb0, .int .i64 rc0]) ∧ Hid (Row V (w.heap.size + 1) 0 [.int .i64 op0, .int .i64 ra0, .int .i64 rb0, .int .i64 rc1])) ⟨hid (by repeat (first | (with_reducible exact Ext.refl _) | (with_reducible refine Ext.undrew ?_) | (with_reducible refine Ext.grow ?_ _) | (with_reducible refine Ext.drew ?_) | (with_reducible refine Ext.drewN ?_ _) | (with_reducible refine Ext.alloc ?_ _) | (with_reducible assumption) | ((with_reducible refine Ext.setCell ?_ ?_ _); rotate_left; (first | exact Nat.le_refl _ | ((try dsimp only); (try simp only [World.size_alloc, grow_size, World.size_setCell]); omega))))), hid ((Row.new w _ _).ext (Ext.alloc (Ext.refl _) _)), hid (by have := Row.new (w.alloc (.cells #[.int .i64 op0, .int .i64 ra0, .int .i64 rb0, .int .i64 rc0] 23)) #[.int .i64 op0, .int .i64 ra0, .int .i64 rb0, .int .i64 rc1] 23; rw [World.size_alloc] at this; exact this)⟩ ?_
              rintro V0 ⟨HX0, HRA, HRB⟩
              generalize w.heap.size = bx at HRA HRB ⊢
              generalize bx + 1 = bz at HRB ⊢
              have hxx := HX0.out
              go_upto_region 2 with (go_at_call 9; refine (head_ _ (HT.out.ext (by repeat (first | (with_reducible exact Ext.refl _) | (with_reducible refine Ext.undrew ?_) | (with_reducible refine Ext.grow ?_ _) | (with_reducible refine Ext.drew ?_) | (with_reducible refine Ext.drewN ?_ _) | (with_reducible refine Ext.alloc ?_ _) | (with_reducible assumption) | ((with_reducible refine Ext.setCell ?_ ?_ _); rotate_left; (first | exact Nat.le_refl _ | ((try dsimp only); (try simp only [World.size_alloc, grow_size, World.size_setCell]); omega))))))).mono ?_; rintro e wh ⟨rfl, hy⟩; obtain ⟨dh, rfl⟩ := hy.grown; clear hy)
              refine wp_gen (fun V => Hid (Ext w V) ∧ Hid (Row V bx 0 [.int .i64 op0, .int .i64 ra0, .int .i64 rb0, .int .i64 rc0]) ∧ Hid (Row V bz 0 [.int .i64 op0, .int .i64 ra0, .int .i64 rb0, .int .i64 rc1])) ⟨hid (by repeat (first | (with_reducible exact Ext.refl _) | (with_reducible refine Ext.undrew ?_) | (with_reducible refine Ext.grow ?_ _) | (with_reducible refine Ext.drew ?_) | (with_reducible refine Ext.drewN ?_ _) | (with_reducible refine Ext.alloc ?_ _) | (with_reducible assumption) | ((with_reducible refine Ext.setCell ?_ ?_ _); rotate_left; (first | exact Nat.le_refl _ | ((try dsimp only); (try simp only [World.size_alloc, grow_size, World.size_setCell]); omega))))), hid (HRA.out.ext (by repeat (first | (with_reducible exact Ext.refl _) | (with_reducible refine Ext.undrew ?_) | (with_reducible refine Ext.grow ?_ _) | (with_reducible refine Ext.drew ?_) | (with_reducible refine Ext.drewN ?_ _) | (with_reducible refine Ext.alloc ?_ _) | (with_reducible assumption) | ((with_reducible refine Ext.setCell ?_ ?_ _); rotate_left; (first | exact Nat.le_refl _ | ((try dsimp only); (try simp only [World.size_alloc, grow_size, World.size_setCell]); omega)))))), hid (HRB.out.ext (by repeat (first | (with_reducible exact Ext.refl _) | (with_reducible refine Ext.undrew ?_) | (with_reducible refine Ext.grow ?_ _) | (with_reducible refine Ext.drew ?_) | (with_reducible refine Ext.drewN ?_ _) | (with_reducible refine Ext.alloc ?_ _) | (with_reducible assumption) | ((with_reducible refine Ext.setCell ?_ ?_ _); rotate_left; (first | exact Nat.le_refl _ | ((try dsimp only); (try simp only [World.size_alloc, grow_size, World.size_setCell]); omega))))))⟩ ?_
              clear hxx HX0 HRA HRB
              rintro V1 ⟨HX1, HRA, HRB⟩
              have hxx := HX1.out
              have x0 : World.cell? V1 ⟨bx, 0, none⟩ = some (.int .i64 op0) := by have := HRA.out.at_ 0 _ rfl; simpa using this
              have x1 : World.cell? V1 ⟨bx, 1, none⟩ = some (.int .i64 ra0) := by have := HRA.out.at_ 1 _ rfl; simpa using this
              have x2 : World.cell? V1 ⟨bx, 2, none⟩ = some (.int .i64 rb0) := by have := HRA.out.at_ 2 _ rfl; simpa using this
              have x3 : World.cell? V1 ⟨bx, 3, none⟩ = some (.int .i64 rc0) := by have := HRA.out.at_ 3 _ rfl; simpa using this
              have xl := HRA.out.lt
              have y0 : World.cell? V1 ⟨bz, 0, none⟩ = some (.int .i64 op0) := by have := HRB.out.at_ 0 _ rfl; simpa using this
              have y1 : World.cell? V1 ⟨bz, 1, none⟩ = some (.int .i64 ra0) := by have := HRB.out.at_ 1 _ rfl; simpa using this
              have y2 : World.cell? V1 ⟨bz, 2, none⟩ = some (.int .i64 rb0) := by have := HRB.out.at_ 2 _ rfl; simpa using this
              have y3 : World.cell? V1 ⟨bz, 3, none⟩ = some (.int .i64 rc1) := by have := HRB.out.at_ 3 _ rfl; simpa using this
              have yl := HRB.out.lt
              go_upto_region 4 with (first | (go_at_call 21; with_reducible refine Calls.mono (rright15 op0 ra0 rb0 rc0 _) ?_; rw [HRX.out]; rintro e w1 ⟨rfl, hy⟩; obtain ⟨d1, rfl⟩ := hy.grown; clear hy) | (go_at_call 21; with_reducible refine Calls.mono (rright15 op0 ra0 rb0 rc1 _) ?_; rw [HRY.out]; rintro e w1 ⟨rfl, hy⟩; obtain ⟨d2, rfl⟩ := hy.grown; clear hy))
              refine wp_gen (fun V => Hid (Ext w V) ∧ Hid (Row V bx 0 [.int .i64 op0, .int .i64 ra0, .int .i64 rb0, .int .i64 rc0]) ∧ Hid (Row V bz 0 [.int .i64 op0, .int .i64 ra0, .int .i64 rb0, .int .i64 rc1])) ⟨hid (by repeat (first | (with_reducible exact Ext.refl _) | (with_reducible refine Ext.undrew ?_) | (with_reducible refine Ext.grow ?_ _) | (with_reducible refine Ext.drew ?_) | (with_reducible refine Ext.drewN ?_ _) | (with_reducible refine Ext.alloc ?_ _) | (with_reducible assumption) | ((with_reducible refine Ext.setCell ?_ ?_ _); rotate_left; (first | exact Nat.le_refl _ | ((try dsimp only); (try simp only [World.size_alloc, grow_size, World.size_setCell]); omega))))), hid (HRA.out.ext (by repeat (first | (with_reducible exact Ext.refl _) | (with_reducible refine Ext.undrew ?_) | (with_reducible refine Ext.grow ?_ _) | (with_reducible refine Ext.drew ?_) | (with_reducible refine Ext.drewN ?_ _) | (with_reducible refine Ext.alloc ?_ _) | (with_reducible assumption) | ((with_reducible refine Ext.setCell ?_ ?_ _); rotate_left; (first | exact Nat.le_refl _ | ((try dsimp only); (try simp only [World.size_alloc, grow_size, World.size_setCell]); omega)))))), hid (HRB.out.ext (by repeat (first | (with_reducible exact Ext.refl _) | (with_reducible refine Ext.undrew ?_) | (with_reducible refine Ext.grow ?_ _) | (with_reducible refine Ext.drew ?_) | (with_reducible refine Ext.drewN ?_ _) | (with_reducible refine Ext.alloc ?_ _) | (with_reducible assumption) | ((with_reducible refine Ext.setCell ?_ ?_ _); rotate_left; (first | exact Nat.le_refl _ | ((try dsimp only); (try simp only [World.size_alloc, grow_size, World.size_setCell]); omega))))))⟩ ?_
              clear hxx HX1 HRA HRB x0 x1 x2 x3 xl y0 y1 y2 y3 yl
              rintro V2 ⟨HX2, HRA, HRB⟩
              have hxx := HX2.out
              have x0 : World.cell? V2 ⟨bx, 0, none⟩ = some (.int .i64 op0) := by have := HRA.out.at_ 0 _ rfl; simpa using this
              have x1 : World.cell? V2 ⟨bx, 1, none⟩ = some (.int .i64 ra0) := by have := HRA.out.at_ 1 _ rfl; simpa using this
              have x2 : World.cell? V2 ⟨bx, 2, none⟩ = some (.int .i64 rb0) := by have := HRA.out.at_ 2 _ rfl; simpa using this
              have x3 : World.cell? V2 ⟨bx, 3, none⟩ = some (.int .i64 rc0) := by have := HRA.out.at_ 3 _ rfl; simpa using this
              have xl := HRA.out.lt
              go_upto_region 6 with (first | (go_at_call 14; refine (HTX.out _ (by repeat (first | (with_reducible exact Ext.refl _) | (with_reducible refine Ext.undrew ?_) | (with_reducible refine Ext.grow ?_ _) | (with_reducible refine Ext.drew ?_) | (with_reducible refine Ext.drewN ?_ _) | (with_reducible refine Ext.alloc ?_ _) | (with_reducible assumption) | ((with_reducible refine Ext.setCell ?_ ?_ _); rotate_left; (first | exact Nat.le_refl _ | ((try dsimp only); (try simp only [World.size_alloc, grow_size, World.size_setCell]); omega)))))).mono ?_; rintro e w1 ⟨rfl, hy⟩; obtain ⟨d3, rfl⟩ := hy.grown; clear hy) | (go_at_call 12; refine (HNX.out _ (by repeat (first | (with_reducible exact Ext.refl _) | (with_reducible refine Ext.undrew ?_) | (with_reducible refine Ext.grow ?_ _) | (with_reducible refine Ext.drew ?_) | (with_reducible refine Ext.drewN ?_ _) | (with_reducible refine Ext.alloc ?_ _) | (with_reducible assumption) | ((with_reducible refine Ext.setCell ?_ ?_ _); rotate_left; (first | exact Nat.le_refl _ | ((try dsimp only); (try simp only [World.size_alloc, grow_size, World.size_setCell]); omega)))))).mono ?_; rintro e w1 ⟨rfl, hy⟩; obtain ⟨d4, rfl⟩ := hy.grown; clear hy))
              refine wp_gen (fun V => Hid (Ext w V) ∧ Hid (Row V bx 0 [.int .i64 op0, .int .i64 ra0, .int .i64 rb0, .int .i64 rc0]) ∧ Hid (Row V bz 0 [.int .i64 op0, .int .i64 ra0, .int .i64 rb0, .int .i64 rc1])) ⟨hid (by repeat (first | (with_reducible exact Ext.refl _) | (with_reducible refine Ext.undrew ?_) | (with_reducible refine Ext.grow ?_ _) | (with_reducible refine Ext.drew ?_) | (with_reducible refine Ext.drewN ?_ _) | (with_reducible refine Ext.alloc ?_ _) | (with_reducible assumption) | ((with_reducible refine Ext.setCell ?_ ?_ _); rotate_left; (first | exact Nat.le_refl _ | ((try dsimp only); (try simp only [World.size_alloc, grow_size, World.size_setCell]); omega))))), hid (HRA.out.ext (by repeat (first | (with_reducible exact Ext.refl _) | (with_reducible refine Ext.undrew ?_) | (with_reducible refine Ext.grow ?_ _) | (with_reducible refine Ext.drew ?_) | (with_reducible refine Ext.drewN ?_ _) | (with_reducible refine Ext.alloc ?_ _) | (with_reducible assumption) | ((with_reducible refine Ext.setCell ?_ ?_ _); rotate_left; (first | exact Nat.le_refl _ | ((try dsimp only); (try simp only [World.size_alloc, grow_size, World.size_setCell]); omega)))))), hid (HRB.out.ext (by repeat (first | (with_reducible exact Ext.refl _) | (with_reducible refine Ext.undrew ?_) | (with_reducible refine Ext.grow ?_ _) | (with_reducible refine Ext.drew ?_) | (with_reducible refine Ext.drewN ?_ _) | (with_reducible refine Ext.alloc ?_ _) | (with_reducible assumption) | ((with_reducible refine Ext.setCell ?_ ?_ _); rotate_left; (first | exact Nat.le_refl _ | ((try dsimp only); (try simp only [World.size_alloc, grow_size, World.size_setCell]); omega))))))⟩ ?_
              clear hxx HX2 HRA HRB x0 x1 x2 x3 xl
              rintro V3 ⟨HX3, HRA, HRB⟩
              have hxx := HX3.out
              have x0 : World.cell? V3 ⟨bx, 0, none⟩ = some (.int .i64 op0) := by have := HRA.out.at_ 0 _ rfl; simpa using this
              have x1 : World.cell? V3 ⟨bx, 1, none⟩ = some (.int .i64 ra0) := by have := HRA.out.at_ 1 _ rfl; simpa using this
              have x2 : World.cell? V3 ⟨bx, 2, none⟩ = some (.int .i64 rb0) := by have := HRA.out.at_ 2 _ rfl; simpa using this
              have x3 : World.cell? V3 ⟨bx, 3, none⟩ = some (.int .i64 rc0) := by have := HRA.out.at_ 3 _ rfl; simpa using this
              have xl := HRA.out.lt
              have y0 : World.cell? V3 ⟨bz, 0, none⟩ = some (.int .i64 op0) := by have := HRB.out.at_ 0 _ rfl; simpa using this
              have y1 : World.cell? V3 ⟨bz, 1, none⟩ = some (.int .i64 ra0) := by have := HRB.out.at_ 1 _ rfl; simpa using this
              have y2 : World.cell? V3 ⟨bz, 2, none⟩ = some (.int .i64 rb0) := by have := HRB.out.at_ 2 _ rfl; simpa using this
              have y3 : World.cell? V3 ⟨bz, 3, none⟩ = some (.int .i64 rc1) := by have := HRB.out.at_ 3 _ rfl; simpa using this
              have yl := HRB.out.lt
              have hB : decide (op0 = op0 ∧ ra0 = ra0 ∧ rb0 = rb0 ∧ rc0 = rc1) = false := decide_eq_false (fun e => e3 e.2.2.2)
              refine wp_region_grow (by kernel_rfl) (by kernel_rfl) (by first | (simp only [List.append]; rfl) | rfl) ?_
              (repeat (go_big_quiet_step (first | (go_at_call 14; exact growOf (HTY.out _ (by repeat (first | (with_reducible exact Ext.refl _) | (with_reducible refine Ext.undrew ?_) | (with_reducible refine Ext.grow ?_ _) | (with_reducible refine Ext.drew ?_) | (with_reducible refine Ext.drewN ?_ _) | (with_reducible refine Ext.alloc ?_ _) | (with_reducible assumption) | ((with_reducible refine Ext.setCell ?_ ?_ _); rotate_left; (first | exact Nat.le_refl _ | ((try dsimp only); (try simp only [World.size_alloc, grow_size, World.size_setCell]); omega))))))) | (go_at_call 12; exact growOf (HNX.out _ (by repeat (first | (with_reducible exact Ext.refl _) | (with_reducible refine Ext.undrew ?_) | (with_reducible refine Ext.grow ?_ _) | (with_reducible refine Ext.drew ?_) | (with_reducible refine Ext.drewN ?_ _) | (with_reducible refine Ext.alloc ?_ _) | (with_reducible assumption) | ((with_reducible refine Ext.setCell ?_ ?_ _); rotate_left; (first | exact Nat.le_refl _ | ((try dsimp only); (try simp only [World.size_alloc, grow_size, World.size_setCell]); omega))))))))))
              refine wpQuiet_nil ?_
              intro wq hq
              obtain ⟨d9, rfl⟩ := hq
              go_wp2
              go_ret
              exact ⟨rfl, (by repeat (first | (with_reducible exact Ext.refl _) | (with_reducible refine Ext.undrew ?_) | (with_reducible refine Ext.grow ?_ _) | (with_reducible refine Ext.drew ?_) | (with_reducible refine Ext.drewN ?_ _) | (with_reducible refine Ext.alloc ?_ _) | (with_reducible assumption) | ((with_reducible refine Ext.setCell ?_ ?_ _); rotate_left; (first | exact Nat.le_refl _ | ((try dsimp only); (try simp only [World.size_alloc, grow_size, World.size_setCell]); omega)))))⟩
          · skip
            have HRX := hid h0
            have HRY := hid h1
            obtain ⟨rr, hrr⟩ := text_head h0
            have hle : (⟨(nameL op0).toArray⟩ : ByteArray).size ≤ (⟨(textL op0 ra0 rb0 rc0).toArray⟩ : ByteArray).size := by
              show (nameL op0).toArray.size ≤ (textL op0 ra0 rb0 rc0).toArray.size
              rw [List.size_toArray, List.size_toArray, hrr, List.length_append]
              omega
            have hext : (⟨(textL op0 ra0 rb0 rc0).toArray⟩ : ByteArray).extract 0 (⟨(nameL op0).toArray⟩ : ByteArray).size = ⟨(nameL op0).toArray⟩ := by rw [hrr]; exact ext_name
            have hTX : ∀ W, Ext w W → Calls Tryd.prog 14 #[.agg #[.int .i64 op0, .int .i64 ra0, .int .i64 rb0, .int .i64 rc0]] W fun e w' => e = .returned (.string ⟨(textL op0 ra0 rb0 rc0).toArray⟩) ∧ Ext W w' := fun W hx => text_ op0 ra0 rb0 rc0 W (HT.out.ext hx)
            have hNX : ∀ W, Ext w W → Calls Tryd.prog 12 #[.int .i64 op0] W fun e w' => e = .returned (.string ⟨(nameL op0).toArray⟩) ∧ Ext W w' := fun W hx => name_ op0 W (HT.out.ext hx)
            have hTY : ∀ W, Ext w W → Calls Tryd.prog 14 #[.agg #[.int .i64 op0, .int .i64 ra0, .int .i64 rb1, .int .i64 rc1]] W fun e w' => e = .returned (.string ⟨(textL op0 ra0 rb1 rc1).toArray⟩) ∧ Ext W w' := fun W hx => text_ op0 ra0 rb1 rc1 W (HT.out.ext hx)
            have hne := text_ne_of (x := ⟨op0, ra0, rb0, rc0⟩) (y := ⟨op0, ra0, rb1, rc1⟩) h0 h1 (fun e => e2 (In.mk.inj e).2.2.1)
            have hs1 := bs_eq (textL op0 ra0 rb0 rc0) (textL op0 ra0 rb1 rc1)
            have hs2 := bs_eqL (textL op0 ra0 rb0 rc0) (textL op0 ra0 rb1 rc1)
            rw [decide_eq_false hne] at hs1 hs2
            obtain ⟨t, ht⟩ : ∃ t : ByteArray, (⟨(textL op0 ra0 rb1 rc1).toArray⟩ : ByteArray) = t := ⟨_, rfl⟩
            rw [ht] at hs1 hs2 hTY
            have HTY := hid hTY
            clear hTY ht hne
            obtain ⟨s, hs⟩ : ∃ t : ByteArray, (⟨(textL op0 ra0 rb0 rc0).toArray⟩ : ByteArray) = t := ⟨_, rfl⟩
            obtain ⟨n, hn⟩ : ∃ t : ByteArray, (⟨(nameL op0).toArray⟩ : ByteArray) = t := ⟨_, rfl⟩
            rw [hs] at hle hext hTX hs1 hs2
            rw [hn] at hle hext hNX
            have HTX := hid hTX
            have HNX := hid hNX
            have hle1 : ((n.size : Nat) : Int) ≤ (s.size : Int) := by omega
            have hle2 : ¬ (s.size : Int) < (n.size : Int) := by omega
            have hle0 : (0 : Int) ≤ (n.size : Int) := by omega
            clear hs hn hTX hNX hrr h0 h1 hle
            go_enter Tryd.func7, Tryd.ntmps7
            go_upto_region 1 with (fail)
            refine wp_gen (fun V => Hid (Ext w V) ∧ Hid (Row V w.heap.size 0 [.int .i64 op0, .int .i64 ra0, .int .i64 rb0, .int .i64 rc0]) ∧ Hid (Row V (w.heap.size + 1) 0 [.int .i64 op0, .int .i64 ra0, .int .i64 rb1, .int .i64 rc1])) ⟨hid (by repeat (first | (with_reducible exact Ext.refl _) | (with_reducible refine Ext.undrew ?_) | (with_reducible refine Ext.grow ?_ _) | (with_reducible refine Ext.drew ?_) | (with_reducible refine Ext.drewN ?_ _) | (with_reducible refine Ext.alloc ?_ _) | (with_reducible assumption) | ((with_reducible refine Ext.setCell ?_ ?_ _); rotate_left; (first | exact Nat.le_refl _ | ((try dsimp only); (try simp only [World.size_alloc, grow_size, World.size_setCell]); omega))))), hid ((Row.new w _ _).ext (Ext.alloc (Ext.refl _) _)), hid (by have := Row.new (w.alloc (.cells #[.int .i64 op0, .int .i64 ra0, .int .i64 rb0, .int .i64 rc0] 23)) #[.int .i64 op0, .int .i64 ra0, .int .i64 rb1, .int .i64 rc1] 23; rw [World.size_alloc] at this; exact this)⟩ ?_
            rintro V0 ⟨HX0, HRA, HRB⟩
            generalize w.heap.size = bx at HRA HRB ⊢
            generalize bx + 1 = bz at HRB ⊢
            have hxx := HX0.out
            go_upto_region 2 with (go_at_call 9; refine (head_ _ (HT.out.ext (by repeat (first | (with_reducible exact Ext.refl _) | (with_reducible refine Ext.undrew ?_) | (with_reducible refine Ext.grow ?_ _) | (with_reducible refine Ext.drew ?_) | (with_reducible refine Ext.drewN ?_ _) | (with_reducible refine Ext.alloc ?_ _) | (with_reducible assumption) | ((with_reducible refine Ext.setCell ?_ ?_ _); rotate_left; (first | exact Nat.le_refl _ | ((try dsimp only); (try simp only [World.size_alloc, grow_size, World.size_setCell]); omega))))))).mono ?_; rintro e wh ⟨rfl, hy⟩; obtain ⟨dh, rfl⟩ := hy.grown; clear hy)
            refine wp_gen (fun V => Hid (Ext w V) ∧ Hid (Row V bx 0 [.int .i64 op0, .int .i64 ra0, .int .i64 rb0, .int .i64 rc0]) ∧ Hid (Row V bz 0 [.int .i64 op0, .int .i64 ra0, .int .i64 rb1, .int .i64 rc1])) ⟨hid (by repeat (first | (with_reducible exact Ext.refl _) | (with_reducible refine Ext.undrew ?_) | (with_reducible refine Ext.grow ?_ _) | (with_reducible refine Ext.drew ?_) | (with_reducible refine Ext.drewN ?_ _) | (with_reducible refine Ext.alloc ?_ _) | (with_reducible assumption) | ((with_reducible refine Ext.setCell ?_ ?_ _); rotate_left; (first | exact Nat.le_refl _ | ((try dsimp only); (try simp only [World.size_alloc, grow_size, World.size_setCell]); omega))))), hid (HRA.out.ext (by repeat (first | (with_reducible exact Ext.refl _) | (with_reducible refine Ext.undrew ?_) | (with_reducible refine Ext.grow ?_ _) | (with_reducible refine Ext.drew ?_) | (with_reducible refine Ext.drewN ?_ _) | (with_reducible refine Ext.alloc ?_ _) | (with_reducible assumption) | ((with_reducible refine Ext.setCell ?_ ?_ _); rotate_left; (first | exact Nat.le_refl _ | ((try dsimp only); (try simp only [World.size_alloc, grow_size, World.size_setCell]); omega)))))), hid (HRB.out.ext (by repeat (first | (with_reducible exact Ext.refl _) | (with_reducible refine Ext.undrew ?_) | (with_reducible refine Ext.grow ?_ _) | (with_reducible refine Ext.drew ?_) | (with_reducible refine Ext.drewN ?_ _) | (with_reducible refine Ext.alloc ?_ _) | (with_reducible assumption) | ((with_reducible refine Ext.setCell ?_ ?_ _); rotate_left; (first | exact Nat.le_refl _ | ((try dsimp only); (try simp only [World.size_alloc, grow_size, World.size_setCell]); omega))))))⟩ ?_
            clear hxx HX0 HRA HRB
            rintro V1 ⟨HX1, HRA, HRB⟩
            have hxx := HX1.out
            have x0 : World.cell? V1 ⟨bx, 0, none⟩ = some (.int .i64 op0) := by have := HRA.out.at_ 0 _ rfl; simpa using this
            have x1 : World.cell? V1 ⟨bx, 1, none⟩ = some (.int .i64 ra0) := by have := HRA.out.at_ 1 _ rfl; simpa using this
            have x2 : World.cell? V1 ⟨bx, 2, none⟩ = some (.int .i64 rb0) := by have := HRA.out.at_ 2 _ rfl; simpa using this
            have x3 : World.cell? V1 ⟨bx, 3, none⟩ = some (.int .i64 rc0) := by have := HRA.out.at_ 3 _ rfl; simpa using this
            have xl := HRA.out.lt
            have y0 : World.cell? V1 ⟨bz, 0, none⟩ = some (.int .i64 op0) := by have := HRB.out.at_ 0 _ rfl; simpa using this
            have y1 : World.cell? V1 ⟨bz, 1, none⟩ = some (.int .i64 ra0) := by have := HRB.out.at_ 1 _ rfl; simpa using this
            have y2 : World.cell? V1 ⟨bz, 2, none⟩ = some (.int .i64 rb1) := by have := HRB.out.at_ 2 _ rfl; simpa using this
            have y3 : World.cell? V1 ⟨bz, 3, none⟩ = some (.int .i64 rc1) := by have := HRB.out.at_ 3 _ rfl; simpa using this
            have yl := HRB.out.lt
            go_upto_region 4 with (first | (go_at_call 21; with_reducible refine Calls.mono (rright15 op0 ra0 rb0 rc0 _) ?_; rw [HRX.out]; rintro e w1 ⟨rfl, hy⟩; obtain ⟨d1, rfl⟩ := hy.grown; clear hy) | (go_at_call 21; with_reducible refine Calls.mono (rright15 op0 ra0 rb1 rc1 _) ?_; rw [HRY.out]; rintro e w1 ⟨rfl, hy⟩; obtain ⟨d2, rfl⟩ := hy.grown; clear hy))
            refine wp_gen (fun V => Hid (Ext w V) ∧ Hid (Row V bx 0 [.int .i64 op0, .int .i64 ra0, .int .i64 rb0, .int .i64 rc0]) ∧ Hid (Row V bz 0 [.int .i64 op0, .int .i64 ra0, .int .i64 rb1, .int .i64 rc1])) ⟨hid (by repeat (first | (with_reducible exact Ext.refl _) | (with_reducible refine Ext.undrew ?_) | (with_reducible refine Ext.grow ?_ _) | (with_reducible refine Ext.drew ?_) | (with_reducible refine Ext.drewN ?_ _) | (with_reducible refine Ext.alloc ?_ _) | (with_reducible assumption) | ((with_reducible refine Ext.setCell ?_ ?_ _); rotate_left; (first | exact Nat.le_refl _ | ((try dsimp only); (try simp only [World.size_alloc, grow_size, World.size_setCell]); omega))))), hid (HRA.out.ext (by repeat (first | (with_reducible exact Ext.refl _) | (with_reducible refine Ext.undrew ?_) | (with_reducible refine Ext.grow ?_ _) | (with_reducible refine Ext.drew ?_) | (with_reducible refine Ext.drewN ?_ _) | (with_reducible refine Ext.alloc ?_ _) | (with_reducible assumption) | ((with_reducible refine Ext.setCell ?_ ?_ _); rotate_left; (first | exact Nat.le_refl _ | ((try dsimp only); (try simp only [World.size_alloc, grow_size, World.size_setCell]); omega)))))), hid (HRB.out.ext (by repeat (first | (with_reducible exact Ext.refl _) | (with_reducible refine Ext.undrew ?_) | (with_reducible refine Ext.grow ?_ _) | (with_reducible refine Ext.drew ?_) | (with_reducible refine Ext.drewN ?_ _) | (with_reducible refine Ext.alloc ?_ _) | (with_reducible assumption) | ((with_reducible refine Ext.setCell ?_ ?_ _); rotate_left; (first | exact Nat.le_refl _ | ((try dsimp only); (try simp only [World.size_alloc, grow_size, World.size_setCell]); omega))))))⟩ ?_
            clear hxx HX1 HRA HRB x0 x1 x2 x3 xl y0 y1 y2 y3 yl
            rintro V2 ⟨HX2, HRA, HRB⟩
            have hxx := HX2.out
            have x0 : World.cell? V2 ⟨bx, 0, none⟩ = some (.int .i64 op0) := by have := HRA.out.at_ 0 _ rfl; simpa using this
            have x1 : World.cell? V2 ⟨bx, 1, none⟩ = some (.int .i64 ra0) := by have := HRA.out.at_ 1 _ rfl; simpa using this
            have x2 : World.cell? V2 ⟨bx, 2, none⟩ = some (.int .i64 rb0) := by have := HRA.out.at_ 2 _ rfl; simpa using this
            have x3 : World.cell? V2 ⟨bx, 3, none⟩ = some (.int .i64 rc0) := by have := HRA.out.at_ 3 _ rfl; simpa using this
            have xl := HRA.out.lt
            go_upto_region 6 with (first | (go_at_call 14; refine (HTX.out _ (by repeat (first | (with_reducible exact Ext.refl _) | (with_reducible refine Ext.undrew ?_) | (with_reducible refine Ext.grow ?_ _) | (with_reducible refine Ext.drew ?_) | (with_reducible refine Ext.drewN ?_ _) | (with_reducible refine Ext.alloc ?_ _) | (with_reducible assumption) | ((with_reducible refine Ext.setCell ?_ ?_ _); rotate_left; (first | exact Nat.le_refl _ | ((try dsimp only); (try simp only [World.size_alloc, grow_size, World.size_setCell]); omega)))))).mono ?_; rintro e w1 ⟨rfl, hy⟩; obtain ⟨d3, rfl⟩ := hy.grown; clear hy) | (go_at_call 12; refine (HNX.out _ (by repeat (first | (with_reducible exact Ext.refl _) | (with_reducible refine Ext.undrew ?_) | (with_reducible refine Ext.grow ?_ _) | (with_reducible refine Ext.drew ?_) | (with_reducible refine Ext.drewN ?_ _) | (with_reducible refine Ext.alloc ?_ _) | (with_reducible assumption) | ((with_reducible refine Ext.setCell ?_ ?_ _); rotate_left; (first | exact Nat.le_refl _ | ((try dsimp only); (try simp only [World.size_alloc, grow_size, World.size_setCell]); omega)))))).mono ?_; rintro e w1 ⟨rfl, hy⟩; obtain ⟨d4, rfl⟩ := hy.grown; clear hy))
            refine wp_gen (fun V => Hid (Ext w V) ∧ Hid (Row V bx 0 [.int .i64 op0, .int .i64 ra0, .int .i64 rb0, .int .i64 rc0]) ∧ Hid (Row V bz 0 [.int .i64 op0, .int .i64 ra0, .int .i64 rb1, .int .i64 rc1])) ⟨hid (by repeat (first | (with_reducible exact Ext.refl _) | (with_reducible refine Ext.undrew ?_) | (with_reducible refine Ext.grow ?_ _) | (with_reducible refine Ext.drew ?_) | (with_reducible refine Ext.drewN ?_ _) | (with_reducible refine Ext.alloc ?_ _) | (with_reducible assumption) | ((with_reducible refine Ext.setCell ?_ ?_ _); rotate_left; (first | exact Nat.le_refl _ | ((try dsimp only); (try simp only [World.size_alloc, grow_size, World.size_setCell]); omega))))), hid (HRA.out.ext (by repeat (first | (with_reducible exact Ext.refl _) | (with_reducible refine Ext.undrew ?_) | (with_reducible refine Ext.grow ?_ _) | (with_reducible refine Ext.drew ?_) | (with_reducible refine Ext.drewN ?_ _) | (with_reducible refine Ext.alloc ?_ _) | (with_reducible assumption) | ((with_reducible refine Ext.setCell ?_ ?_ _); rotate_left; (first | exact Nat.le_refl _ | ((try dsimp only); (try simp only [World.size_alloc, grow_size, World.size_setCell]); omega)))))), hid (HRB.out.ext (by repeat (first | (with_reducible exact Ext.refl _) | (with_reducible refine Ext.undrew ?_) | (with_reducible refine Ext.grow ?_ _) | (with_reducible refine Ext.drew ?_) | (with_reducible refine Ext.drewN ?_ _) | (with_reducible refine Ext.alloc ?_ _) | (with_reducible assumption) | ((with_reducible refine Ext.setCell ?_ ?_ _); rotate_left; (first | exact Nat.le_refl _ | ((try dsimp only); (try simp only [World.size_alloc, grow_size, World.size_setCell]); omega))))))⟩ ?_
            clear hxx HX2 HRA HRB x0 x1 x2 x3 xl
            rintro V3 ⟨HX3, HRA, HRB⟩
            have hxx := HX3.out
            have x0 : World.cell? V3 ⟨bx, 0, none⟩ = some (.int .i64 op0) := by have := HRA.out.at_ 0 _ rfl; simpa using this
            have x1 : World.cell? V3 ⟨bx, 1, none⟩ = some (.int .i64 ra0) := by have := HRA.out.at_ 1 _ rfl; simpa using this
            have x2 : World.cell? V3 ⟨bx, 2, none⟩ = some (.int .i64 rb0) := by have := HRA.out.at_ 2 _ rfl; simpa using this
            have x3 : World.cell? V3 ⟨bx, 3, none⟩ = some (.int .i64 rc0) := by have := HRA.out.at_ 3 _ rfl; simpa using this
            have xl := HRA.out.lt
            have y0 : World.cell? V3 ⟨bz, 0, none⟩ = some (.int .i64 op0) := by have := HRB.out.at_ 0 _ rfl; simpa using this
            have y1 : World.cell? V3 ⟨bz, 1, none⟩ = some (.int .i64 ra0) := by have := HRB.out.at_ 1 _ rfl; simpa using this
            have y2 : World.cell? V3 ⟨bz, 2, none⟩ = some (.int .i64 rb1) := by have := HRB.out.at_ 2 _ rfl; simpa using this
            have y3 : World.cell? V3 ⟨bz, 3, none⟩ = some (.int .i64 rc1) := by have := HRB.out.at_ 3 _ rfl; simpa using this
            have yl := HRB.out.lt
            have hB : decide (op0 = op0 ∧ ra0 = ra0 ∧ rb0 = rb1 ∧ rc0 = rc1) = false := decide_eq_false (fun e => e2 e.2.2.1)
            refine wp_region_grow (by kernel_rfl) (by kernel_rfl) (by first | (simp only [List.append]; rfl) | rfl) ?_
            (repeat (go_big_quiet_step (first | (go_at_call 14; exact growOf (HTY.out _ (by repeat (first | (with_reducible exact Ext.refl _) | (with_reducible refine Ext.undrew ?_) | (with_reducible refine Ext.grow ?_ _) | (with_reducible refine Ext.drew ?_) | (with_reducible refine Ext.drewN ?_ _) | (with_reducible refine Ext.alloc ?_ _) | (with_reducible assumption) | ((with_reducible refine Ext.setCell ?_ ?_ _); rotate_left; (first | exact Nat.le_refl _ | ((try dsimp only); (try simp only [World.size_alloc, grow_size, World.size_setCell]); omega))))))) | (go_at_call 12; exact growOf (HNX.out _ (by repeat (first | (with_reducible exact Ext.refl _) | (with_reducible refine Ext.undrew ?_) | (with_reducible refine Ext.grow ?_ _) | (with_reducible refine Ext.drew ?_) | (with_reducible refine Ext.drewN ?_ _) | (with_reducible refine Ext.alloc ?_ _) | (with_reducible assumption) | ((with_reducible refine Ext.setCell ?_ ?_ _); rotate_left; (first | exact Nat.le_refl _ | ((try dsimp only); (try simp only [World.size_alloc, grow_size, World.size_setCell]); omega))))))))))
            refine wpQuiet_nil ?_
            intro wq hq
            obtain ⟨d9, rfl⟩ := hq
            go_wp2
            go_ret
            exact ⟨rfl, (by repeat (first | (with_reducible exact Ext.refl _) | (with_reducible refine Ext.undrew ?_) | (with_reducible refine Ext.grow ?_ _) | (with_reducible refine Ext.drew ?_) | (with_reducible refine Ext.drewN ?_ _) | (with_reducible refine Ext.alloc ?_ _) | (with_reducible assumption) | ((with_reducible refine Ext.setCell ?_ ?_ _); rotate_left; (first | exact Nat.le_refl _ | ((try dsimp only); (try simp only [World.size_alloc, grow_size, World.size_setCell]); omega)))))⟩
        · skip
          have HRX := hid h0
          have HRY := hid h1
          obtain ⟨rr, hrr⟩ := text_head h0
          have hle : (⟨(nameL op0).toArray⟩ : ByteArray).size ≤ (⟨(textL op0 ra0 rb0 rc0).toArray⟩ : ByteArray).size := by
            show (nameL op0).toArray.size ≤ (textL op0 ra0 rb0 rc0).toArray.size
            rw [List.size_toArray, List.size_toArray, hrr, List.length_append]
            omega
          have hext : (⟨(textL op0 ra0 rb0 rc0).toArray⟩ : ByteArray).extract 0 (⟨(nameL op0).toArray⟩ : ByteArray).size = ⟨(nameL op0).toArray⟩ := by rw [hrr]; exact ext_name
          have hTX : ∀ W, Ext w W → Calls Tryd.prog 14 #[.agg #[.int .i64 op0, .int .i64 ra0, .int .i64 rb0, .int .i64 rc0]] W fun e w' => e = .returned (.string ⟨(textL op0 ra0 rb0 rc0).toArray⟩) ∧ Ext W w' := fun W hx => text_ op0 ra0 rb0 rc0 W (HT.out.ext hx)
          have hNX : ∀ W, Ext w W → Calls Tryd.prog 12 #[.int .i64 op0] W fun e w' => e = .returned (.string ⟨(nameL op0).toArray⟩) ∧ Ext W w' := fun W hx => name_ op0 W (HT.out.ext hx)
          have hTY : ∀ W, Ext w W → Calls Tryd.prog 14 #[.agg #[.int .i64 op0, .int .i64 ra1, .int .i64 rb1, .int .i64 rc1]] W fun e w' => e = .returned (.string ⟨(textL op0 ra1 rb1 rc1).toArray⟩) ∧ Ext W w' := fun W hx => text_ op0 ra1 rb1 rc1 W (HT.out.ext hx)
          have hne := text_ne_of (x := ⟨op0, ra0, rb0, rc0⟩) (y := ⟨op0, ra1, rb1, rc1⟩) h0 h1 (fun e => e1 (In.mk.inj e).2.1)
          have hs1 := bs_eq (textL op0 ra0 rb0 rc0) (textL op0 ra1 rb1 rc1)
          have hs2 := bs_eqL (textL op0 ra0 rb0 rc0) (textL op0 ra1 rb1 rc1)
          rw [decide_eq_false hne] at hs1 hs2
          obtain ⟨t, ht⟩ : ∃ t : ByteArray, (⟨(textL op0 ra1 rb1 rc1).toArray⟩ : ByteArray) = t := ⟨_, rfl⟩
          rw [ht] at hs1 hs2 hTY
          have HTY := hid hTY
          clear hTY ht hne
          obtain ⟨s, hs⟩ : ∃ t : ByteArray, (⟨(textL op0 ra0 rb0 rc0).toArray⟩ : ByteArray) = t := ⟨_, rfl⟩
          obtain ⟨n, hn⟩ : ∃ t : ByteArray, (⟨(nameL op0).toArray⟩ : ByteArray) = t := ⟨_, rfl⟩
          rw [hs] at hle hext hTX hs1 hs2
          rw [hn] at hle hext hNX
          have HTX := hid hTX
          have HNX := hid hNX
          have hle1 : ((n.size : Nat) : Int) ≤ (s.size : Int) := by omega
          have hle2 : ¬ (s.size : Int) < (n.size : Int) := by omega
          have hle0 : (0 : Int) ≤ (n.size : Int) := by omega
          clear hs hn hTX hNX hrr h0 h1 hle
          go_enter Tryd.func7, Tryd.ntmps7
          go_upto_region 1 with (fail)
          refine wp_gen (fun V => Hid (Ext w V) ∧ Hid (Row V w.heap.size 0 [.int .i64 op0, .int .i64 ra0, .int .i64 rb0, .int .i64 rc0]) ∧ Hid (Row V (w.heap.size + 1) 0 [.int .i64 op0, .int .i64 ra1, .int .i64 rb1, .int .i64 rc1])) ⟨hid (by repeat (first | (with_reducible exact Ext.refl _) | (with_reducible refine Ext.undrew ?_) | (with_reducible refine Ext.grow ?_ _) | (with_reducible refine Ext.drew ?_) | (with_reducible refine Ext.drewN ?_ _) | (with_reducible refine Ext.alloc ?_ _) | (with_reducible assumption) | ((with_reducible refine Ext.setCell ?_ ?_ _); rotate_left; (first | exact Nat.le_refl _ | ((try dsimp only); (try simp only [World.size_alloc, grow_size, World.size_setCell]); omega))))), hid ((Row.new w _ _).ext (Ext.alloc (Ext.refl _) _)), hid (by have := Row.new (w.alloc (.cells #[.int .i64 op0, .int .i64 ra0, .int .i64 rb0, .int .i64 rc0] 23)) #[.int .i64 op0, .int .i64 ra1, .int .i64 rb1, .int .i64 rc1] 23; rw [World.size_alloc] at this; exact this)⟩ ?_
          rintro V0 ⟨HX0, HRA, HRB⟩
          generalize w.heap.size = bx at HRA HRB ⊢
          generalize bx + 1 = bz at HRB ⊢
          have hxx := HX0.out
          go_upto_region 2 with (go_at_call 9; refine (head_ _ (HT.out.ext (by repeat (first | (with_reducible exact Ext.refl _) | (with_reducible refine Ext.undrew ?_) | (with_reducible refine Ext.grow ?_ _) | (with_reducible refine Ext.drew ?_) | (with_reducible refine Ext.drewN ?_ _) | (with_reducible refine Ext.alloc ?_ _) | (with_reducible assumption) | ((with_reducible refine Ext.setCell ?_ ?_ _); rotate_left; (first | exact Nat.le_refl _ | ((try dsimp only); (try simp only [World.size_alloc, grow_size, World.size_setCell]); omega))))))).mono ?_; rintro e wh ⟨rfl, hy⟩; obtain ⟨dh, rfl⟩ := hy.grown; clear hy)
          refine wp_gen (fun V => Hid (Ext w V) ∧ Hid (Row V bx 0 [.int .i64 op0, .int .i64 ra0, .int .i64 rb0, .int .i64 rc0]) ∧ Hid (Row V bz 0 [.int .i64 op0, .int .i64 ra1, .int .i64 rb1, .int .i64 rc1])) ⟨hid (by repeat (first | (with_reducible exact Ext.refl _) | (with_reducible refine Ext.undrew ?_) | (with_reducible refine Ext.grow ?_ _) | (with_reducible refine Ext.drew ?_) | (with_reducible refine Ext.drewN ?_ _) | (with_reducible refine Ext.alloc ?_ _) | (with_reducible assumption) | ((with_reducible refine Ext.setCell ?_ ?_ _); rotate_left; (first | exact Nat.le_refl _ | ((try dsimp only); (try simp only [World.size_alloc, grow_size, World.size_setCell]); omega))))), hid (HRA.out.ext (by repeat (first | (with_reducible exact Ext.refl _) | (with_reducible refine Ext.undrew ?_) | (with_reducible refine Ext.grow ?_ _) | (with_reducible refine Ext.drew ?_) | (with_reducible refine Ext.drewN ?_ _) | (with_reducible refine Ext.alloc ?_ _) | (with_reducible assumption) | ((with_reducible refine Ext.setCell ?_ ?_ _); rotate_left; (first | exact Nat.le_refl _ | ((try dsimp only); (try simp only [World.size_alloc, grow_size, World.size_setCell]); omega)))))), hid (HRB.out.ext (by repeat (first | (with_reducible exact Ext.refl _) | (with_reducible refine Ext.undrew ?_) | (with_reducible refine Ext.grow ?_ _) | (with_reducible refine Ext.drew ?_) | (with_reducible refine Ext.drewN ?_ _) | (with_reducible refine Ext.alloc ?_ _) | (with_reducible assumption) | ((with_reducible refine Ext.setCell ?_ ?_ _); rotate_left; (first | exact Nat.le_refl _ | ((try dsimp only); (try simp only [World.size_alloc, grow_size, World.size_setCell]); omega))))))⟩ ?_
          clear hxx HX0 HRA HRB
          rintro V1 ⟨HX1, HRA, HRB⟩
          have hxx := HX1.out
          have x0 : World.cell? V1 ⟨bx, 0, none⟩ = some (.int .i64 op0) := by have := HRA.out.at_ 0 _ rfl; simpa using this
          have x1 : World.cell? V1 ⟨bx, 1, none⟩ = some (.int .i64 ra0) := by have := HRA.out.at_ 1 _ rfl; simpa using this
          have x2 : World.cell? V1 ⟨bx, 2, none⟩ = some (.int .i64 rb0) := by have := HRA.out.at_ 2 _ rfl; simpa using this
          have x3 : World.cell? V1 ⟨bx, 3, none⟩ = some (.int .i64 rc0) := by have := HRA.out.at_ 3 _ rfl; simpa using this
          have xl := HRA.out.lt
          have y0 : World.cell? V1 ⟨bz, 0, none⟩ = some (.int .i64 op0) := by have := HRB.out.at_ 0 _ rfl; simpa using this
          have y1 : World.cell? V1 ⟨bz, 1, none⟩ = some (.int .i64 ra1) := by have := HRB.out.at_ 1 _ rfl; simpa using this
          have y2 : World.cell? V1 ⟨bz, 2, none⟩ = some (.int .i64 rb1) := by have := HRB.out.at_ 2 _ rfl; simpa using this
          have y3 : World.cell? V1 ⟨bz, 3, none⟩ = some (.int .i64 rc1) := by have := HRB.out.at_ 3 _ rfl; simpa using this
          have yl := HRB.out.lt
          go_upto_region 4 with (first | (go_at_call 21; with_reducible refine Calls.mono (rright15 op0 ra0 rb0 rc0 _) ?_; rw [HRX.out]; rintro e w1 ⟨rfl, hy⟩; obtain ⟨d1, rfl⟩ := hy.grown; clear hy) | (go_at_call 21; with_reducible refine Calls.mono (rright15 op0 ra1 rb1 rc1 _) ?_; rw [HRY.out]; rintro e w1 ⟨rfl, hy⟩; obtain ⟨d2, rfl⟩ := hy.grown; clear hy))
          refine wp_gen (fun V => Hid (Ext w V) ∧ Hid (Row V bx 0 [.int .i64 op0, .int .i64 ra0, .int .i64 rb0, .int .i64 rc0]) ∧ Hid (Row V bz 0 [.int .i64 op0, .int .i64 ra1, .int .i64 rb1, .int .i64 rc1])) ⟨hid (by repeat (first | (with_reducible exact Ext.refl _) | (with_reducible refine Ext.undrew ?_) | (with_reducible refine Ext.grow ?_ _) | (with_reducible refine Ext.drew ?_) | (with_reducible refine Ext.drewN ?_ _) | (with_reducible refine Ext.alloc ?_ _) | (with_reducible assumption) | ((with_reducible refine Ext.setCell ?_ ?_ _); rotate_left; (first | exact Nat.le_refl _ | ((try dsimp only); (try simp only [World.size_alloc, grow_size, World.size_setCell]); omega))))), hid (HRA.out.ext (by repeat (first | (with_reducible exact Ext.refl _) | (with_reducible refine Ext.undrew ?_) | (with_reducible refine Ext.grow ?_ _) | (with_reducible refine Ext.drew ?_) | (with_reducible refine Ext.drewN ?_ _) | (with_reducible refine Ext.alloc ?_ _) | (with_reducible assumption) | ((with_reducible refine Ext.setCell ?_ ?_ _); rotate_left; (first | exact Nat.le_refl _ | ((try dsimp only); (try simp only [World.size_alloc, grow_size, World.size_setCell]); omega)))))), hid (HRB.out.ext (by repeat (first | (with_reducible exact Ext.refl _) | (with_reducible refine Ext.undrew ?_) | (with_reducible refine Ext.grow ?_ _) | (with_reducible refine Ext.drew ?_) | (with_reducible refine Ext.drewN ?_ _) | (with_reducible refine Ext.alloc ?_ _) | (with_reducible assumption) | ((with_reducible refine Ext.setCell ?_ ?_ _); rotate_left; (first | exact Nat.le_refl _ | ((try dsimp only); (try simp only [World.size_alloc, grow_size, World.size_setCell]); omega))))))⟩ ?_
          clear hxx HX1 HRA HRB x0 x1 x2 x3 xl y0 y1 y2 y3 yl
          rintro V2 ⟨HX2, HRA, HRB⟩
          have hxx := HX2.out
          have x0 : World.cell? V2 ⟨bx, 0, none⟩ = some (.int .i64 op0) := by have := HRA.out.at_ 0 _ rfl; simpa using this
          have x1 : World.cell? V2 ⟨bx, 1, none⟩ = some (.int .i64 ra0) := by have := HRA.out.at_ 1 _ rfl; simpa using this
          have x2 : World.cell? V2 ⟨bx, 2, none⟩ = some (.int .i64 rb0) := by have := HRA.out.at_ 2 _ rfl; simpa using this
          have x3 : World.cell? V2 ⟨bx, 3, none⟩ = some (.int .i64 rc0) := by have := HRA.out.at_ 3 _ rfl; simpa using this
          have xl := HRA.out.lt
          go_upto_region 6 with (first | (go_at_call 14; refine (HTX.out _ (by repeat (first | (with_reducible exact Ext.refl _) | (with_reducible refine Ext.undrew ?_) | (with_reducible refine Ext.grow ?_ _) | (with_reducible refine Ext.drew ?_) | (with_reducible refine Ext.drewN ?_ _) | (with_reducible refine Ext.alloc ?_ _) | (with_reducible assumption) | ((with_reducible refine Ext.setCell ?_ ?_ _); rotate_left; (first | exact Nat.le_refl _ | ((try dsimp only); (try simp only [World.size_alloc, grow_size, World.size_setCell]); omega)))))).mono ?_; rintro e w1 ⟨rfl, hy⟩; obtain ⟨d3, rfl⟩ := hy.grown; clear hy) | (go_at_call 12; refine (HNX.out _ (by repeat (first | (with_reducible exact Ext.refl _) | (with_reducible refine Ext.undrew ?_) | (with_reducible refine Ext.grow ?_ _) | (with_reducible refine Ext.drew ?_) | (with_reducible refine Ext.drewN ?_ _) | (with_reducible refine Ext.alloc ?_ _) | (with_reducible assumption) | ((with_reducible refine Ext.setCell ?_ ?_ _); rotate_left; (first | exact Nat.le_refl _ | ((try dsimp only); (try simp only [World.size_alloc, grow_size, World.size_setCell]); omega)))))).mono ?_; rintro e w1 ⟨rfl, hy⟩; obtain ⟨d4, rfl⟩ := hy.grown; clear hy))
          refine wp_gen (fun V => Hid (Ext w V) ∧ Hid (Row V bx 0 [.int .i64 op0, .int .i64 ra0, .int .i64 rb0, .int .i64 rc0]) ∧ Hid (Row V bz 0 [.int .i64 op0, .int .i64 ra1, .int .i64 rb1, .int .i64 rc1])) ⟨hid (by repeat (first | (with_reducible exact Ext.refl _) | (with_reducible refine Ext.undrew ?_) | (with_reducible refine Ext.grow ?_ _) | (with_reducible refine Ext.drew ?_) | (with_reducible refine Ext.drewN ?_ _) | (with_reducible refine Ext.alloc ?_ _) | (with_reducible assumption) | ((with_reducible refine Ext.setCell ?_ ?_ _); rotate_left; (first | exact Nat.le_refl _ | ((try dsimp only); (try simp only [World.size_alloc, grow_size, World.size_setCell]); omega))))), hid (HRA.out.ext (by repeat (first | (with_reducible exact Ext.refl _) | (with_reducible refine Ext.undrew ?_) | (with_reducible refine Ext.grow ?_ _) | (with_reducible refine Ext.drew ?_) | (with_reducible refine Ext.drewN ?_ _) | (with_reducible refine Ext.alloc ?_ _) | (with_reducible assumption) | ((with_reducible refine Ext.setCell ?_ ?_ _); rotate_left; (first | exact Nat.le_refl _ | ((try dsimp only); (try simp only [World.size_alloc, grow_size, World.size_setCell]); omega)))))), hid (HRB.out.ext (by repeat (first | (with_reducible exact Ext.refl _) | (with_reducible refine Ext.undrew ?_) | (with_reducible refine Ext.grow ?_ _) | (with_reducible refine Ext.drew ?_) | (with_reducible refine Ext.drewN ?_ _) | (with_reducible refine Ext.alloc ?_ _) | (with_reducible assumption) | ((with_reducible refine Ext.setCell ?_ ?_ _); rotate_left; (first | exact Nat.le_refl _ | ((try dsimp only); (try simp only [World.size_alloc, grow_size, World.size_setCell]); omega))))))⟩ ?_
          clear hxx HX2 HRA HRB x0 x1 x2 x3 xl
          rintro V3 ⟨HX3, HRA, HRB⟩
          have hxx := HX3.out
          have x0 : World.cell? V3 ⟨bx, 0, none⟩ = some (.int .i64 op0) := by have := HRA.out.at_ 0 _ rfl; simpa using this
          have x1 : World.cell? V3 ⟨bx, 1, none⟩ = some (.int .i64 ra0) := by have := HRA.out.at_ 1 _ rfl; simpa using this
          have x2 : World.cell? V3 ⟨bx, 2, none⟩ = some (.int .i64 rb0) := by have := HRA.out.at_ 2 _ rfl; simpa using this
          have x3 : World.cell? V3 ⟨bx, 3, none⟩ = some (.int .i64 rc0) := by have := HRA.out.at_ 3 _ rfl; simpa using this
          have xl := HRA.out.lt
          have y0 : World.cell? V3 ⟨bz, 0, none⟩ = some (.int .i64 op0) := by have := HRB.out.at_ 0 _ rfl; simpa using this
          have y1 : World.cell? V3 ⟨bz, 1, none⟩ = some (.int .i64 ra1) := by have := HRB.out.at_ 1 _ rfl; simpa using this
          have y2 : World.cell? V3 ⟨bz, 2, none⟩ = some (.int .i64 rb1) := by have := HRB.out.at_ 2 _ rfl; simpa using this
          have y3 : World.cell? V3 ⟨bz, 3, none⟩ = some (.int .i64 rc1) := by have := HRB.out.at_ 3 _ rfl; simpa using this
          have yl := HRB.out.lt
          have hB : decide (op0 = op0 ∧ ra0 = ra1 ∧ rb0 = rb1 ∧ rc0 = rc1) = false := decide_eq_false (fun e => e1 e.2.1)
          refine wp_region_grow (by kernel_rfl) (by kernel_rfl) (by first | (simp only [List.append]; rfl) | rfl) ?_
          (repeat (go_big_quiet_step (first | (go_at_call 14; exact growOf (HTY.out _ (by repeat (first | (with_reducible exact Ext.refl _) | (with_reducible refine Ext.undrew ?_) | (with_reducible refine Ext.grow ?_ _) | (with_reducible refine Ext.drew ?_) | (with_reducible refine Ext.drewN ?_ _) | (with_reducible refine Ext.alloc ?_ _) | (with_reducible assumption) | ((with_reducible refine Ext.setCell ?_ ?_ _); rotate_left; (first | exact Nat.le_refl _ | ((try dsimp only); (try simp only [World.size_alloc, grow_size, World.size_setCell]); omega))))))) | (go_at_call 12; exact growOf (HNX.out _ (by repeat (first | (with_reducible exact Ext.refl _) | (with_reducible refine Ext.undrew ?_) | (with_reducible refine Ext.grow ?_ _) | (with_reducible refine Ext.drew ?_) | (with_reducible refine Ext.drewN ?_ _) | (with_reducible refine Ext.alloc ?_ _) | (with_reducible assumption) | ((with_reducible refine Ext.setCell ?_ ?_ _); rotate_left; (first | exact Nat.le_refl _ | ((try dsimp only); (try simp only [World.size_alloc, grow_size, World.size_setCell]); omega))))))))))
          refine wpQuiet_nil ?_
          intro wq hq
          obtain ⟨d9, rfl⟩ := hq
          go_wp2
          go_ret
          exact ⟨rfl, (by repeat (first | (with_reducible exact Ext.refl _) | (with_reducible refine Ext.undrew ?_) | (with_reducible refine Ext.grow ?_ _) | (with_reducible refine Ext.drew ?_) | (with_reducible refine Ext.drewN ?_ _) | (with_reducible refine Ext.alloc ?_ _) | (with_reducible assumption) | ((with_reducible refine Ext.setCell ?_ ?_ _); rotate_left; (first | exact Nat.le_refl _ | ((try dsimp only); (try simp only [World.size_alloc, grow_size, World.size_setCell]); omega)))))⟩
      · skip
        have HRX := hid h0
        have HRY := hid h1
        obtain ⟨rr, hrr⟩ := text_head h0
        have hle : (⟨(nameL op0).toArray⟩ : ByteArray).size ≤ (⟨(textL op0 ra0 rb0 rc0).toArray⟩ : ByteArray).size := by
          show (nameL op0).toArray.size ≤ (textL op0 ra0 rb0 rc0).toArray.size
          rw [List.size_toArray, List.size_toArray, hrr, List.length_append]
          omega
        have hext : (⟨(textL op0 ra0 rb0 rc0).toArray⟩ : ByteArray).extract 0 (⟨(nameL op0).toArray⟩ : ByteArray).size = ⟨(nameL op0).toArray⟩ := by rw [hrr]; exact ext_name
        have hTX : ∀ W, Ext w W → Calls Tryd.prog 14 #[.agg #[.int .i64 op0, .int .i64 ra0, .int .i64 rb0, .int .i64 rc0]] W fun e w' => e = .returned (.string ⟨(textL op0 ra0 rb0 rc0).toArray⟩) ∧ Ext W w' := fun W hx => text_ op0 ra0 rb0 rc0 W (HT.out.ext hx)
        have hNX : ∀ W, Ext w W → Calls Tryd.prog 12 #[.int .i64 op0] W fun e w' => e = .returned (.string ⟨(nameL op0).toArray⟩) ∧ Ext W w' := fun W hx => name_ op0 W (HT.out.ext hx)
        have hTY : ∀ W, Ext w W → Calls Tryd.prog 14 #[.agg #[.int .i64 op1, .int .i64 ra1, .int .i64 rb1, .int .i64 rc1]] W fun e w' => e = .returned (.string ⟨(textL op1 ra1 rb1 rc1).toArray⟩) ∧ Ext W w' := fun W hx => text_ op1 ra1 rb1 rc1 W (HT.out.ext hx)
        have hne := text_ne_of (x := ⟨op0, ra0, rb0, rc0⟩) (y := ⟨op1, ra1, rb1, rc1⟩) h0 h1 (fun e => e0 (In.mk.inj e).1)
        have hs1 := bs_eq (textL op0 ra0 rb0 rc0) (textL op1 ra1 rb1 rc1)
        have hs2 := bs_eqL (textL op0 ra0 rb0 rc0) (textL op1 ra1 rb1 rc1)
        rw [decide_eq_false hne] at hs1 hs2
        obtain ⟨t, ht⟩ : ∃ t : ByteArray, (⟨(textL op1 ra1 rb1 rc1).toArray⟩ : ByteArray) = t := ⟨_, rfl⟩
        rw [ht] at hs1 hs2 hTY
        have HTY := hid hTY
        clear hTY ht hne
        have hNY : ∀ W, Ext w W → Calls Tryd.prog 12 #[.int .i64 op1] W fun e w' => e = .returned (.string ⟨(nameL op1).toArray⟩) ∧ Ext W w' := fun W hx => name_ op1 W (HT.out.ext hx)
        have hnn : ¬ nameL op0 = nameL op1 := fun e => e0 (nameL_inj (kd_range (right_kd h0)) (kd_range (right_kd h1)) e)
        have hn1 := bs_eq (nameL op0) (nameL op1)
        have hn2 := bs_eqL (nameL op0) (nameL op1)
        rw [decide_eq_false hnn] at hn1 hn2
        have ho : (op0 == op1) = false := by simpa using e0
        obtain ⟨m, hm⟩ : ∃ t : ByteArray, (⟨(nameL op1).toArray⟩ : ByteArray) = t := ⟨_, rfl⟩
        rw [hm] at hn1 hn2 hNY
        have HNY := hid hNY
        clear hNY hm hnn
        obtain ⟨s, hs⟩ : ∃ t : ByteArray, (⟨(textL op0 ra0 rb0 rc0).toArray⟩ : ByteArray) = t := ⟨_, rfl⟩
        obtain ⟨n, hn⟩ : ∃ t : ByteArray, (⟨(nameL op0).toArray⟩ : ByteArray) = t := ⟨_, rfl⟩
        rw [hs] at hle hext hTX hs1 hs2
        rw [hn] at hle hext hNX hn1 hn2
        have HTX := hid hTX
        have HNX := hid hNX
        have hle1 : ((n.size : Nat) : Int) ≤ (s.size : Int) := by omega
        have hle2 : ¬ (s.size : Int) < (n.size : Int) := by omega
        have hle0 : (0 : Int) ≤ (n.size : Int) := by omega
        clear hs hn hTX hNX hrr h0 h1 hle
        go_enter Tryd.func7, Tryd.ntmps7
        go_upto_region 1 with (fail)
        refine wp_gen (fun V => Hid (Ext w V) ∧ Hid (Row V w.heap.size 0 [.int .i64 op0, .int .i64 ra0, .int .i64 rb0, .int .i64 rc0]) ∧ Hid (Row V (w.heap.size + 1) 0 [.int .i64 op1, .int .i64 ra1, .int .i64 rb1, .int .i64 rc1])) ⟨hid (by repeat (first | (with_reducible exact Ext.refl _) | (with_reducible refine Ext.undrew ?_) | (with_reducible refine Ext.grow ?_ _) | (with_reducible refine Ext.drew ?_) | (with_reducible refine Ext.drewN ?_ _) | (with_reducible refine Ext.alloc ?_ _) | (with_reducible assumption) | ((with_reducible refine Ext.setCell ?_ ?_ _); rotate_left; (first | exact Nat.le_refl _ | ((try dsimp only); (try simp only [World.size_alloc, grow_size, World.size_setCell]); omega))))), hid ((Row.new w _ _).ext (Ext.alloc (Ext.refl _) _)), hid (by have := Row.new (w.alloc (.cells #[.int .i64 op0, .int .i64 ra0, .int .i64 rb0, .int .i64 rc0] 23)) #[.int .i64 op1, .int .i64 ra1, .int .i64 rb1, .int .i64 rc1] 23; rw [World.size_alloc] at this; exact this)⟩ ?_
        rintro V0 ⟨HX0, HRA, HRB⟩
        generalize w.heap.size = bx at HRA HRB ⊢
        generalize bx + 1 = bz at HRB ⊢
        have hxx := HX0.out
        go_upto_region 2 with (go_at_call 9; refine (head_ _ (HT.out.ext (by repeat (first | (with_reducible exact Ext.refl _) | (with_reducible refine Ext.undrew ?_) | (with_reducible refine Ext.grow ?_ _) | (with_reducible refine Ext.drew ?_) | (with_reducible refine Ext.drewN ?_ _) | (with_reducible refine Ext.alloc ?_ _) | (with_reducible assumption) | ((with_reducible refine Ext.setCell ?_ ?_ _); rotate_left; (first | exact Nat.le_refl _ | ((try dsimp only); (try simp only [World.size_alloc, grow_size, World.size_setCell]); omega))))))).mono ?_; rintro e wh ⟨rfl, hy⟩; obtain ⟨dh, rfl⟩ := hy.grown; clear hy)
        refine wp_gen (fun V => Hid (Ext w V) ∧ Hid (Row V bx 0 [.int .i64 op0, .int .i64 ra0, .int .i64 rb0, .int .i64 rc0]) ∧ Hid (Row V bz 0 [.int .i64 op1, .int .i64 ra1, .int .i64 rb1, .int .i64 rc1])) ⟨hid (by repeat (first | (with_reducible exact Ext.refl _) | (with_reducible refine Ext.undrew ?_) | (with_reducible refine Ext.grow ?_ _) | (with_reducible refine Ext.drew ?_) | (with_reducible refine Ext.drewN ?_ _) | (with_reducible refine Ext.alloc ?_ _) | (with_reducible assumption) | ((with_reducible refine Ext.setCell ?_ ?_ _); rotate_left; (first | exact Nat.le_refl _ | ((try dsimp only); (try simp only [World.size_alloc, grow_size, World.size_setCell]); omega))))), hid (HRA.out.ext (by repeat (first | (with_reducible exact Ext.refl _) | (with_reducible refine Ext.undrew ?_) | (with_reducible refine Ext.grow ?_ _) | (with_reducible refine Ext.drew ?_) | (with_reducible refine Ext.drewN ?_ _) | (with_reducible refine Ext.alloc ?_ _) | (with_reducible assumption) | ((with_reducible refine Ext.setCell ?_ ?_ _); rotate_left; (first | exact Nat.le_refl _ | ((try dsimp only); (try simp only [World.size_alloc, grow_size, World.size_setCell]); omega)))))), hid (HRB.out.ext (by repeat (first | (with_reducible exact Ext.refl _) | (with_reducible refine Ext.undrew ?_) | (with_reducible refine Ext.grow ?_ _) | (with_reducible refine Ext.drew ?_) | (with_reducible refine Ext.drewN ?_ _) | (with_reducible refine Ext.alloc ?_ _) | (with_reducible assumption) | ((with_reducible refine Ext.setCell ?_ ?_ _); rotate_left; (first | exact Nat.le_refl _ | ((try dsimp only); (try simp only [World.size_alloc, grow_size, World.size_setCell]); omega))))))⟩ ?_
        clear hxx HX0 HRA HRB
        rintro V1 ⟨HX1, HRA, HRB⟩
        have hxx := HX1.out
        have x0 : World.cell? V1 ⟨bx, 0, none⟩ = some (.int .i64 op0) := by have := HRA.out.at_ 0 _ rfl; simpa using this
        have x1 : World.cell? V1 ⟨bx, 1, none⟩ = some (.int .i64 ra0) := by have := HRA.out.at_ 1 _ rfl; simpa using this
        have x2 : World.cell? V1 ⟨bx, 2, none⟩ = some (.int .i64 rb0) := by have := HRA.out.at_ 2 _ rfl; simpa using this
        have x3 : World.cell? V1 ⟨bx, 3, none⟩ = some (.int .i64 rc0) := by have := HRA.out.at_ 3 _ rfl; simpa using this
        have xl := HRA.out.lt
        have y0 : World.cell? V1 ⟨bz, 0, none⟩ = some (.int .i64 op1) := by have := HRB.out.at_ 0 _ rfl; simpa using this
        have y1 : World.cell? V1 ⟨bz, 1, none⟩ = some (.int .i64 ra1) := by have := HRB.out.at_ 1 _ rfl; simpa using this
        have y2 : World.cell? V1 ⟨bz, 2, none⟩ = some (.int .i64 rb1) := by have := HRB.out.at_ 2 _ rfl; simpa using this
        have y3 : World.cell? V1 ⟨bz, 3, none⟩ = some (.int .i64 rc1) := by have := HRB.out.at_ 3 _ rfl; simpa using this
        have yl := HRB.out.lt
        go_upto_region 4 with (first | (go_at_call 21; with_reducible refine Calls.mono (rright15 op0 ra0 rb0 rc0 _) ?_; rw [HRX.out]; rintro e w1 ⟨rfl, hy⟩; obtain ⟨d1, rfl⟩ := hy.grown; clear hy) | (go_at_call 21; with_reducible refine Calls.mono (rright15 op1 ra1 rb1 rc1 _) ?_; rw [HRY.out]; rintro e w1 ⟨rfl, hy⟩; obtain ⟨d2, rfl⟩ := hy.grown; clear hy))
        refine wp_gen (fun V => Hid (Ext w V) ∧ Hid (Row V bx 0 [.int .i64 op0, .int .i64 ra0, .int .i64 rb0, .int .i64 rc0]) ∧ Hid (Row V bz 0 [.int .i64 op1, .int .i64 ra1, .int .i64 rb1, .int .i64 rc1])) ⟨hid (by repeat (first | (with_reducible exact Ext.refl _) | (with_reducible refine Ext.undrew ?_) | (with_reducible refine Ext.grow ?_ _) | (with_reducible refine Ext.drew ?_) | (with_reducible refine Ext.drewN ?_ _) | (with_reducible refine Ext.alloc ?_ _) | (with_reducible assumption) | ((with_reducible refine Ext.setCell ?_ ?_ _); rotate_left; (first | exact Nat.le_refl _ | ((try dsimp only); (try simp only [World.size_alloc, grow_size, World.size_setCell]); omega))))), hid (HRA.out.ext (by repeat (first | (with_reducible exact Ext.refl _) | (with_reducible refine Ext.undrew ?_) | (with_reducible refine Ext.grow ?_ _) | (with_reducible refine Ext.drew ?_) | (with_reducible refine Ext.drewN ?_ _) | (with_reducible refine Ext.alloc ?_ _) | (with_reducible assumption) | ((with_reducible refine Ext.setCell ?_ ?_ _); rotate_left; (first | exact Nat.le_refl _ | ((try dsimp only); (try simp only [World.size_alloc, grow_size, World.size_setCell]); omega)))))), hid (HRB.out.ext (by repeat (first | (with_reducible exact Ext.refl _) | (with_reducible refine Ext.undrew ?_) | (with_reducible refine Ext.grow ?_ _) | (with_reducible refine Ext.drew ?_) | (with_reducible refine Ext.drewN ?_ _) | (with_reducible refine Ext.alloc ?_ _) | (with_reducible assumption) | ((with_reducible refine Ext.setCell ?_ ?_ _); rotate_left; (first | exact Nat.le_refl _ | ((try dsimp only); (try simp only [World.size_alloc, grow_size, World.size_setCell]); omega))))))⟩ ?_
        clear hxx HX1 HRA HRB x0 x1 x2 x3 xl y0 y1 y2 y3 yl
        rintro V2 ⟨HX2, HRA, HRB⟩
        have hxx := HX2.out
        have x0 : World.cell? V2 ⟨bx, 0, none⟩ = some (.int .i64 op0) := by have := HRA.out.at_ 0 _ rfl; simpa using this
        have x1 : World.cell? V2 ⟨bx, 1, none⟩ = some (.int .i64 ra0) := by have := HRA.out.at_ 1 _ rfl; simpa using this
        have x2 : World.cell? V2 ⟨bx, 2, none⟩ = some (.int .i64 rb0) := by have := HRA.out.at_ 2 _ rfl; simpa using this
        have x3 : World.cell? V2 ⟨bx, 3, none⟩ = some (.int .i64 rc0) := by have := HRA.out.at_ 3 _ rfl; simpa using this
        have xl := HRA.out.lt
        go_upto_region 6 with (first | (go_at_call 14; refine (HTX.out _ (by repeat (first | (with_reducible exact Ext.refl _) | (with_reducible refine Ext.undrew ?_) | (with_reducible refine Ext.grow ?_ _) | (with_reducible refine Ext.drew ?_) | (with_reducible refine Ext.drewN ?_ _) | (with_reducible refine Ext.alloc ?_ _) | (with_reducible assumption) | ((with_reducible refine Ext.setCell ?_ ?_ _); rotate_left; (first | exact Nat.le_refl _ | ((try dsimp only); (try simp only [World.size_alloc, grow_size, World.size_setCell]); omega)))))).mono ?_; rintro e w1 ⟨rfl, hy⟩; obtain ⟨d3, rfl⟩ := hy.grown; clear hy) | (go_at_call 12; refine (HNX.out _ (by repeat (first | (with_reducible exact Ext.refl _) | (with_reducible refine Ext.undrew ?_) | (with_reducible refine Ext.grow ?_ _) | (with_reducible refine Ext.drew ?_) | (with_reducible refine Ext.drewN ?_ _) | (with_reducible refine Ext.alloc ?_ _) | (with_reducible assumption) | ((with_reducible refine Ext.setCell ?_ ?_ _); rotate_left; (first | exact Nat.le_refl _ | ((try dsimp only); (try simp only [World.size_alloc, grow_size, World.size_setCell]); omega)))))).mono ?_; rintro e w1 ⟨rfl, hy⟩; obtain ⟨d4, rfl⟩ := hy.grown; clear hy))
        refine wp_gen (fun V => Hid (Ext w V) ∧ Hid (Row V bx 0 [.int .i64 op0, .int .i64 ra0, .int .i64 rb0, .int .i64 rc0]) ∧ Hid (Row V bz 0 [.int .i64 op1, .int .i64 ra1, .int .i64 rb1, .int .i64 rc1])) ⟨hid (by repeat (first | (with_reducible exact Ext.refl _) | (with_reducible refine Ext.undrew ?_) | (with_reducible refine Ext.grow ?_ _) | (with_reducible refine Ext.drew ?_) | (with_reducible refine Ext.drewN ?_ _) | (with_reducible refine Ext.alloc ?_ _) | (with_reducible assumption) | ((with_reducible refine Ext.setCell ?_ ?_ _); rotate_left; (first | exact Nat.le_refl _ | ((try dsimp only); (try simp only [World.size_alloc, grow_size, World.size_setCell]); omega))))), hid (HRA.out.ext (by repeat (first | (with_reducible exact Ext.refl _) | (with_reducible refine Ext.undrew ?_) | (with_reducible refine Ext.grow ?_ _) | (with_reducible refine Ext.drew ?_) | (with_reducible refine Ext.drewN ?_ _) | (with_reducible refine Ext.alloc ?_ _) | (with_reducible assumption) | ((with_reducible refine Ext.setCell ?_ ?_ _); rotate_left; (first | exact Nat.le_refl _ | ((try dsimp only); (try simp only [World.size_alloc, grow_size, World.size_setCell]); omega)))))), hid (HRB.out.ext (by repeat (first | (with_reducible exact Ext.refl _) | (with_reducible refine Ext.undrew ?_) | (with_reducible refine Ext.grow ?_ _) | (with_reducible refine Ext.drew ?_) | (with_reducible refine Ext.drewN ?_ _) | (with_reducible refine Ext.alloc ?_ _) | (with_reducible assumption) | ((with_reducible refine Ext.setCell ?_ ?_ _); rotate_left; (first | exact Nat.le_refl _ | ((try dsimp only); (try simp only [World.size_alloc, grow_size, World.size_setCell]); omega))))))⟩ ?_
        clear hxx HX2 HRA HRB x0 x1 x2 x3 xl
        rintro V3 ⟨HX3, HRA, HRB⟩
        have hxx := HX3.out
        have x0 : World.cell? V3 ⟨bx, 0, none⟩ = some (.int .i64 op0) := by have := HRA.out.at_ 0 _ rfl; simpa using this
        have x1 : World.cell? V3 ⟨bx, 1, none⟩ = some (.int .i64 ra0) := by have := HRA.out.at_ 1 _ rfl; simpa using this
        have x2 : World.cell? V3 ⟨bx, 2, none⟩ = some (.int .i64 rb0) := by have := HRA.out.at_ 2 _ rfl; simpa using this
        have x3 : World.cell? V3 ⟨bx, 3, none⟩ = some (.int .i64 rc0) := by have := HRA.out.at_ 3 _ rfl; simpa using this
        have xl := HRA.out.lt
        have y0 : World.cell? V3 ⟨bz, 0, none⟩ = some (.int .i64 op1) := by have := HRB.out.at_ 0 _ rfl; simpa using this
        have y1 : World.cell? V3 ⟨bz, 1, none⟩ = some (.int .i64 ra1) := by have := HRB.out.at_ 1 _ rfl; simpa using this
        have y2 : World.cell? V3 ⟨bz, 2, none⟩ = some (.int .i64 rb1) := by have := HRB.out.at_ 2 _ rfl; simpa using this
        have y3 : World.cell? V3 ⟨bz, 3, none⟩ = some (.int .i64 rc1) := by have := HRB.out.at_ 3 _ rfl; simpa using this
        have yl := HRB.out.lt
        have hB : decide (op0 = op1 ∧ ra0 = ra1 ∧ rb0 = rb1 ∧ rc0 = rc1) = false := decide_eq_false (fun e => e0 e.1)
        refine wp_region_grow (by kernel_rfl) (by kernel_rfl) (by first | (simp only [List.append]; rfl) | rfl) ?_
        (repeat (go_big_quiet_step (first | (go_at_call 14; exact growOf (HTY.out _ (by repeat (first | (with_reducible exact Ext.refl _) | (with_reducible refine Ext.undrew ?_) | (with_reducible refine Ext.grow ?_ _) | (with_reducible refine Ext.drew ?_) | (with_reducible refine Ext.drewN ?_ _) | (with_reducible refine Ext.alloc ?_ _) | (with_reducible assumption) | ((with_reducible refine Ext.setCell ?_ ?_ _); rotate_left; (first | exact Nat.le_refl _ | ((try dsimp only); (try simp only [World.size_alloc, grow_size, World.size_setCell]); omega))))))) | (go_at_call 12; exact growOf (HNY.out _ (by repeat (first | (with_reducible exact Ext.refl _) | (with_reducible refine Ext.undrew ?_) | (with_reducible refine Ext.grow ?_ _) | (with_reducible refine Ext.drew ?_) | (with_reducible refine Ext.drewN ?_ _) | (with_reducible refine Ext.alloc ?_ _) | (with_reducible assumption) | ((with_reducible refine Ext.setCell ?_ ?_ _); rotate_left; (first | exact Nat.le_refl _ | ((try dsimp only); (try simp only [World.size_alloc, grow_size, World.size_setCell]); omega))))))))))
        refine wpQuiet_nil ?_
        intro wq hq
        obtain ⟨d9, rfl⟩ := hq
        go_wp2
        go_ret
        exact ⟨rfl, (by repeat (first | (with_reducible exact Ext.refl _) | (with_reducible refine Ext.undrew ?_) | (with_reducible refine Ext.grow ?_ _) | (with_reducible refine Ext.drew ?_) | (with_reducible refine Ext.drewN ?_ _) | (with_reducible refine Ext.alloc ?_ _) | (with_reducible assumption) | ((with_reducible refine Ext.setCell ?_ ?_ _); rotate_left; (first | exact Nat.le_refl _ | ((try dsimp only); (try simp only [World.size_alloc, grow_size, World.size_setCell]); omega)))))⟩
end asmUnlike

end Go.Proofs.YtdhpbofpomefoaaDoor
