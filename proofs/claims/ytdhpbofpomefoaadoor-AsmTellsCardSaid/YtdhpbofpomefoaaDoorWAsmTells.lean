/- The walk of AsmTells. -/
import Derived.Test.YtdhpbofpomefoaaDoorAsmH0
import Derived.Test.YtdhpbofpomefoaaDoorAsmM
namespace Go.Proofs.YtdhpbofpomefoaaDoor
set_option linter.unusedSimpArgs false
set_option linter.unusedVariables false
open Go.RowKit

open Go.Deep Go.RowKit
namespace asmTells
set_option linter.unusedSimpArgs false
set_option linter.unusedVariables false
set_option maxRecDepth 100000 in
set_option maxHeartbeats 8000000 in
theorem walk (op0 ra0 rb0 rc0 : Int) (a1 : ByteArray) (a2 : Int) (w : World) (wop0 : (Lit.int .i64 op0).wf = true) (wra0 : (Lit.int .i64 ra0).wf = true) (wrb0 : (Lit.int .i64 rb0).wf = true) (wrc0 : (Lit.int .i64 rc0).wf = true) (w1 : a1.size ≤ maxLen) (w2 : (Lit.int .i64 a2).wf = true) (hTab : Tb w) :
    Calls Tryd.prog 3 #[.agg #[.int .i64 op0, .int .i64 ra0, .int .i64 rb0, .int .i64 rc0], .string a1, .int .i64 a2] w fun e w' => e = .returned (.bool true) ∧ Ext w w' := by
  have HT := hid hTab
  clear hTab wop0 wra0 wrb0 wrc0 w2
  have HHD : Hid (∀ W, Ext w W → Calls Tryd.prog 9 #[] W fun e w' => e = .returned (.bool true) ∧ Ext W w') := hid (fun W hx => head_ W (HT.out.ext hx))
  by_cases hlen : a1.size ≤ 900
  · have hl1 : ¬ (900 : Int) < (a1.size : Int) := by omega
    have hpe := parse_eq good_R good_A a1.data.toList
    obtain ⟨pz, hpz⟩ : ∃ z, parseN valT a1.data.toList = z := ⟨_, rfl⟩
    rw [show parseN (fun w => valA (trimR w)) a1.data.toList = pz from hpz] at hpe
    obtain ⟨⟨zo, za, zb, zc⟩, zi⟩ := pz
    obtain ⟨nm, hnm⟩ : ∃ z : ByteArray, (⟨(nameL a2).toArray⟩ : ByteArray) = z := ⟨_, rfl⟩
    obtain ⟨tx, htx⟩ : ∃ z : ByteArray, (⟨(textL op0 ra0 rb0 rc0).toArray⟩ : ByteArray) = z := ⟨_, rfl⟩
    have HPA : Hid (∀ W, Ext w W → Calls Tryd.prog 10 #[.string a1] W fun e w' => e = .returned (.tuple #[.agg #[.int .i64 zo, .int .i64 za, .int .i64 zb, .int .i64 zc], .bool zi]) ∧ Ext W w') := hid (fun W hx => by have h := parse_ a1 W (HT.out.ext hx) (by omega); rw [hpz] at h; exact h)
    have HPR : Hid (∀ W, Ext w W → Calls Tryd.prog 11 #[.string a1] W fun e w' => e = .returned (.tuple #[.agg #[.int .i64 zo, .int .i64 za, .int .i64 zb, .int .i64 zc], .bool zi]) ∧ Ext W w') := hid (fun W hx => by have h := rparse_ a1 W (by omega) (HT.out.ext hx); rw [hpe] at h; exact h)
    have HNA : Hid (∀ W, Ext w W → Calls Tryd.prog 12 #[.int .i64 a2] W fun e w' => e = .returned (.string nm) ∧ Ext W w') := hid (fun W hx => by have h := name_ a2 W (HT.out.ext hx); rw [hnm] at h; exact h)
    have HNR : Hid (∀ W, Ext w W → Calls Tryd.prog 13 #[.int .i64 a2] W fun e w' => e = .returned (.string nm) ∧ Ext W w') := hid (fun W hx => by have h := rname_ a2 W; rw [hnm] at h; exact h)
    have HTA : Hid (∀ W, Ext w W → Calls Tryd.prog 14 #[.agg #[.int .i64 op0, .int .i64 ra0, .int .i64 rb0, .int .i64 rc0]] W fun e w' => e = .returned (.string tx) ∧ Ext W w') := hid (fun W hx => by have h := text_ op0 ra0 rb0 rc0 W (HT.out.ext hx); rw [htx] at h; exact h)
    have HTR : Hid (∀ W, Ext w W → Calls Tryd.prog 15 #[.agg #[.int .i64 op0, .int .i64 ra0, .int .i64 rb0, .int .i64 rc0]] W fun e w' => e = .returned (.string tx) ∧ Ext W w') := hid (fun W hx => by have h := rtext_ op0 ra0 rb0 rc0 W (HT.out.ext hx); rw [htx] at h; exact h)
    clear hpe hpz hnm htx
    go_enter Tryd.func3, Tryd.ntmps3
    go_upto_region 1 with (fail)
    refine wp_gen (fun V => Hid (Ext w V) ∧ Hid (Row V w.heap.size 0 [.int .i64 op0, .int .i64 ra0, .int .i64 rb0, .int .i64 rc0])) ⟨hid (by repeat (first | (with_reducible exact Ext.refl _) | (with_reducible refine Ext.undrew ?_) | (with_reducible refine Ext.grow ?_ _) | (with_reducible refine Ext.drew ?_) | (with_reducible refine Ext.drewN ?_ _) | (with_reducible refine Ext.alloc ?_ _) | (with_reducible assumption) | ((with_reducible refine Ext.setCell ?_ ?_ _); rotate_left; (first | exact Nat.le_refl _ | ((try dsimp only); (try simp only [World.size_alloc, grow_size, World.size_setCell]); omega))))), hid (Row.new w _ _)⟩ ?_
    rintro W0 ⟨HX, HRA⟩
    generalize w.heap.size = bx at HRA ⊢
    go_wp2_with fail
    refine Calls.mono (HHD.out _ (Ext.trans HX.out (by repeat (first | (with_reducible exact Ext.refl _) | (with_reducible refine Ext.undrew ?_) | (with_reducible refine Ext.grow ?_ _) | (with_reducible refine Ext.drew ?_) | (with_reducible refine Ext.drewN ?_ _) | (with_reducible refine Ext.alloc ?_ _) | (with_reducible assumption) | ((with_reducible refine Ext.setCell ?_ ?_ _); rotate_left; (first | exact Nat.le_refl _ | ((try dsimp only); (try simp only [World.size_alloc, grow_size, World.size_setCell]); omega))))))) ?_
    rintro e W1 ⟨rfl, hy⟩
    replace HX := hid (Ext.trans (Ext.trans HX.out (by repeat (first | (with_reducible exact Ext.refl _) | (with_reducible refine Ext.undrew ?_) | (with_reducible refine Ext.grow ?_ _) | (with_reducible refine Ext.drew ?_) | (with_reducible refine Ext.drewN ?_ _) | (with_reducible refine Ext.alloc ?_ _) | (with_reducible assumption) | ((with_reducible refine Ext.setCell ?_ ?_ _); rotate_left; (first | exact Nat.le_refl _ | ((try dsimp only); (try simp only [World.size_alloc, grow_size, World.size_setCell]); omega)))))) hy)
    replace HRA := hid ((HRA.out.ext (by repeat (first | (with_reducible exact Ext.refl _) | (with_reducible refine Ext.undrew ?_) | (with_reducible refine Ext.grow ?_ _) | (with_reducible refine Ext.drew ?_) | (with_reducible refine Ext.drewN ?_ _) | (with_reducible refine Ext.alloc ?_ _) | (with_reducible assumption) | ((with_reducible refine Ext.setCell ?_ ?_ _); rotate_left; (first | exact Nat.le_refl _ | ((try dsimp only); (try simp only [World.size_alloc, grow_size, World.size_setCell]); omega)))))).ext hy)
    clear hy
    go_wp2_with fail
    refine Calls.mono (HPA.out _ (Ext.trans HX.out (by repeat (first | (with_reducible exact Ext.refl _) | (with_reducible refine Ext.undrew ?_) | (with_reducible refine Ext.grow ?_ _) | (with_reducible refine Ext.drew ?_) | (with_reducible refine Ext.drewN ?_ _) | (with_reducible refine Ext.alloc ?_ _) | (with_reducible assumption) | ((with_reducible refine Ext.setCell ?_ ?_ _); rotate_left; (first | exact Nat.le_refl _ | ((try dsimp only); (try simp only [World.size_alloc, grow_size, World.size_setCell]); omega))))))) ?_
    rintro e W2 ⟨rfl, hy⟩
    replace HX := hid (Ext.trans (Ext.trans HX.out (by repeat (first | (with_reducible exact Ext.refl _) | (with_reducible refine Ext.undrew ?_) | (with_reducible refine Ext.grow ?_ _) | (with_reducible refine Ext.drew ?_) | (with_reducible refine Ext.drewN ?_ _) | (with_reducible refine Ext.alloc ?_ _) | (with_reducible assumption) | ((with_reducible refine Ext.setCell ?_ ?_ _); rotate_left; (first | exact Nat.le_refl _ | ((try dsimp only); (try simp only [World.size_alloc, grow_size, World.size_setCell]); omega)))))) hy)
    replace HRA := hid ((HRA.out.ext (by repeat (first | (with_reducible exact Ext.refl _) | (with_reducible refine Ext.undrew ?_) | (with_reducible refine Ext.grow ?_ _) | (with_reducible refine Ext.drew ?_) | (with_reducible refine Ext.drewN ?_ _) | (with_reducible refine Ext.alloc ?_ _) | (with_reducible assumption) | ((with_reducible refine Ext.setCell ?_ ?_ _); rotate_left; (first | exact Nat.le_refl _ | ((try dsimp only); (try simp only [World.size_alloc, grow_size, World.size_setCell]); omega)))))).ext hy)
    clear hy
    go_upto_region 5 with (fail)
    refine wp_gen (fun V => Hid (Ext w V) ∧ Hid (Row V bx 0 [.int .i64 op0, .int .i64 ra0, .int .i64 rb0, .int .i64 rc0]) ∧ Hid (Row V W2.heap.size 0 [.int .i64 zo, .int .i64 za, .int .i64 zb, .int .i64 zc])) ⟨hid (Ext.trans HX.out (by repeat (first | (with_reducible exact Ext.refl _) | (with_reducible refine Ext.undrew ?_) | (with_reducible refine Ext.grow ?_ _) | (with_reducible refine Ext.drew ?_) | (with_reducible refine Ext.drewN ?_ _) | (with_reducible refine Ext.alloc ?_ _) | (with_reducible assumption) | ((with_reducible refine Ext.setCell ?_ ?_ _); rotate_left; (first | exact Nat.le_refl _ | ((try dsimp only); (try simp only [World.size_alloc, grow_size, World.size_setCell]); omega)))))), hid (HRA.out.ext (by repeat (first | (with_reducible exact Ext.refl _) | (with_reducible refine Ext.undrew ?_) | (with_reducible refine Ext.grow ?_ _) | (with_reducible refine Ext.drew ?_) | (with_reducible refine Ext.drewN ?_ _) | (with_reducible refine Ext.alloc ?_ _) | (with_reducible assumption) | ((with_reducible refine Ext.setCell ?_ ?_ _); rotate_left; (first | exact Nat.le_refl _ | ((try dsimp only); (try simp only [World.size_alloc, grow_size, World.size_setCell]); omega)))))), hid (Row.new W2 _ _)⟩ ?_
    clear HX HRA
    rintro W3 ⟨HX, HRA, HRB⟩
    generalize W2.heap.size = bz at HRB ⊢
    go_wp2_with fail
    refine Calls.mono (HPR.out _ (Ext.trans HX.out (by repeat (first | (with_reducible exact Ext.refl _) | (with_reducible refine Ext.undrew ?_) | (with_reducible refine Ext.grow ?_ _) | (with_reducible refine Ext.drew ?_) | (with_reducible refine Ext.drewN ?_ _) | (with_reducible refine Ext.alloc ?_ _) | (with_reducible assumption) | ((with_reducible refine Ext.setCell ?_ ?_ _); rotate_left; (first | exact Nat.le_refl _ | ((try dsimp only); (try simp only [World.size_alloc, grow_size, World.size_setCell]); omega))))))) ?_
    rintro e W4 ⟨rfl, hy⟩
    replace HX := hid (Ext.trans (Ext.trans HX.out (by repeat (first | (with_reducible exact Ext.refl _) | (with_reducible refine Ext.undrew ?_) | (with_reducible refine Ext.grow ?_ _) | (with_reducible refine Ext.drew ?_) | (with_reducible refine Ext.drewN ?_ _) | (with_reducible refine Ext.alloc ?_ _) | (with_reducible assumption) | ((with_reducible refine Ext.setCell ?_ ?_ _); rotate_left; (first | exact Nat.le_refl _ | ((try dsimp only); (try simp only [World.size_alloc, grow_size, World.size_setCell]); omega)))))) hy)
    replace HRA := hid ((HRA.out.ext (by repeat (first | (with_reducible exact Ext.refl _) | (with_reducible refine Ext.undrew ?_) | (with_reducible refine Ext.grow ?_ _) | (with_reducible refine Ext.drew ?_) | (with_reducible refine Ext.drewN ?_ _) | (with_reducible refine Ext.alloc ?_ _) | (with_reducible assumption) | ((with_reducible refine Ext.setCell ?_ ?_ _); rotate_left; (first | exact Nat.le_refl _ | ((try dsimp only); (try simp only [World.size_alloc, grow_size, World.size_setCell]); omega)))))).ext hy)
    replace HRB := hid ((HRB.out.ext (by repeat (first | (with_reducible exact Ext.refl _) | (with_reducible refine Ext.undrew ?_) | (with_reducible refine Ext.grow ?_ _) | (with_reducible refine Ext.drew ?_) | (with_reducible refine Ext.drewN ?_ _) | (with_reducible refine Ext.alloc ?_ _) | (with_reducible assumption) | ((with_reducible refine Ext.setCell ?_ ?_ _); rotate_left; (first | exact Nat.le_refl _ | ((try dsimp only); (try simp only [World.size_alloc, grow_size, World.size_setCell]); omega)))))).ext hy)
    clear hy
    go_upto_region 6 with (fail)
    refine wp_gen (fun V => Hid (Ext w V) ∧ Hid (Row V bx 0 [.int .i64 op0, .int .i64 ra0, .int .i64 rb0, .int .i64 rc0]) ∧ Hid (Row V bz 0 [.int .i64 zo, .int .i64 za, .int .i64 zb, .int .i64 zc]) ∧ Hid (Row V W4.heap.size 0 [.int .i64 zo, .int .i64 za, .int .i64 zb, .int .i64 zc])) ⟨hid (Ext.trans HX.out (by repeat (first | (with_reducible exact Ext.refl _) | (with_reducible refine Ext.undrew ?_) | (with_reducible refine Ext.grow ?_ _) | (with_reducible refine Ext.drew ?_) | (with_reducible refine Ext.drewN ?_ _) | (with_reducible refine Ext.alloc ?_ _) | (with_reducible assumption) | ((with_reducible refine Ext.setCell ?_ ?_ _); rotate_left; (first | exact Nat.le_refl _ | ((try dsimp only); (try simp only [World.size_alloc, grow_size, World.size_setCell]); omega)))))), hid (HRA.out.ext (by repeat (first | (with_reducible exact Ext.refl _) | (with_reducible refine Ext.undrew ?_) | (with_reducible refine Ext.grow ?_ _) | (with_reducible refine Ext.drew ?_) | (with_reducible refine Ext.drewN ?_ _) | (with_reducible refine Ext.alloc ?_ _) | (with_reducible assumption) | ((with_reducible refine Ext.setCell ?_ ?_ _); rotate_left; (first | exact Nat.le_refl _ | ((try dsimp only); (try simp only [World.size_alloc, grow_size, World.size_setCell]); omega)))))), hid (HRB.out.ext (by repeat (first | (with_reducible exact Ext.refl _) | (with_reducible refine Ext.undrew ?_) | (with_reducible refine Ext.grow ?_ _) | (with_reducible refine Ext.drew ?_) | (with_reducible refine Ext.drewN ?_ _) | (with_reducible refine Ext.alloc ?_ _) | (with_reducible assumption) | ((with_reducible refine Ext.setCell ?_ ?_ _); rotate_left; (first | exact Nat.le_refl _ | ((try dsimp only); (try simp only [World.size_alloc, grow_size, World.size_setCell]); omega)))))), hid (Row.new W4 _ _)⟩ ?_
    clear HX HRA HRB
    rintro W5 ⟨HX, HRA, HRB, HRC⟩
    generalize W4.heap.size = by_ at HRC ⊢
    have x0 : World.cell? W5 ⟨bx, 0, none⟩ = some (.int .i64 op0) := by have := HRA.out.at_ 0 _ rfl; simpa using this
    have x1 : World.cell? W5 ⟨bx, 1, none⟩ = some (.int .i64 ra0) := by have := HRA.out.at_ 1 _ rfl; simpa using this
    have x2 : World.cell? W5 ⟨bx, 2, none⟩ = some (.int .i64 rb0) := by have := HRA.out.at_ 2 _ rfl; simpa using this
    have x3 : World.cell? W5 ⟨bx, 3, none⟩ = some (.int .i64 rc0) := by have := HRA.out.at_ 3 _ rfl; simpa using this
    have xl := HRA.out.lt
    have y0 : World.cell? W5 ⟨bz, 0, none⟩ = some (.int .i64 zo) := by have := HRB.out.at_ 0 _ rfl; simpa using this
    have y1 : World.cell? W5 ⟨bz, 1, none⟩ = some (.int .i64 za) := by have := HRB.out.at_ 1 _ rfl; simpa using this
    have y2 : World.cell? W5 ⟨bz, 2, none⟩ = some (.int .i64 zb) := by have := HRB.out.at_ 2 _ rfl; simpa using this
    have y3 : World.cell? W5 ⟨bz, 3, none⟩ = some (.int .i64 zc) := by have := HRB.out.at_ 3 _ rfl; simpa using this
    have yl := HRB.out.lt
    have z0 : World.cell? W5 ⟨by_, 0, none⟩ = some (.int .i64 zo) := by have := HRC.out.at_ 0 _ rfl; simpa using this
    have z1 : World.cell? W5 ⟨by_, 1, none⟩ = some (.int .i64 za) := by have := HRC.out.at_ 1 _ rfl; simpa using this
    have z2 : World.cell? W5 ⟨by_, 2, none⟩ = some (.int .i64 zb) := by have := HRC.out.at_ 2 _ rfl; simpa using this
    have z3 : World.cell? W5 ⟨by_, 3, none⟩ = some (.int .i64 zc) := by have := HRC.out.at_ 3 _ rfl; simpa using this
    have zl := HRC.out.lt
    refine wp_region_grow (by kernel_rfl) (by kernel_rfl) (by first | (simp only [List.append]; rfl) | rfl) ?_
    (repeat (go_big_quiet_step (first | (go_at_call 12; exact growOf (HNA.out _ (Ext.trans HX.out (by repeat (first | (with_reducible exact Ext.refl _) | (with_reducible refine Ext.undrew ?_) | (with_reducible refine Ext.grow ?_ _) | (with_reducible refine Ext.drew ?_) | (with_reducible refine Ext.drewN ?_ _) | (with_reducible refine Ext.alloc ?_ _) | (with_reducible assumption) | ((with_reducible refine Ext.setCell ?_ ?_ _); rotate_left; (first | exact Nat.le_refl _ | ((try dsimp only); (try simp only [World.size_alloc, grow_size, World.size_setCell]); omega)))))))) | (go_at_call 13; exact growOf (HNR.out _ (Ext.trans HX.out (by repeat (first | (with_reducible exact Ext.refl _) | (with_reducible refine Ext.undrew ?_) | (with_reducible refine Ext.grow ?_ _) | (with_reducible refine Ext.drew ?_) | (with_reducible refine Ext.drewN ?_ _) | (with_reducible refine Ext.alloc ?_ _) | (with_reducible assumption) | ((with_reducible refine Ext.setCell ?_ ?_ _); rotate_left; (first | exact Nat.le_refl _ | ((try dsimp only); (try simp only [World.size_alloc, grow_size, World.size_setCell]); omega)))))))) | (go_at_call 14; exact growOf (HTA.out _ (Ext.trans HX.out (by repeat (first | (with_reducible exact Ext.refl _) | (with_reducible refine Ext.undrew ?_) | (with_reducible refine Ext.grow ?_ _) | (with_reducible refine Ext.drew ?_) | (with_reducible refine Ext.drewN ?_ _) | (with_reducible refine Ext.alloc ?_ _) | (with_reducible assumption) | ((with_reducible refine Ext.setCell ?_ ?_ _); rotate_left; (first | exact Nat.le_refl _ | ((try dsimp only); (try simp only [World.size_alloc, grow_size, World.size_setCell]); omega)))))))) | (go_at_call 15; exact growOf (HTR.out _ (Ext.trans HX.out (by repeat (first | (with_reducible exact Ext.refl _) | (with_reducible refine Ext.undrew ?_) | (with_reducible refine Ext.grow ?_ _) | (with_reducible refine Ext.drew ?_) | (with_reducible refine Ext.drewN ?_ _) | (with_reducible refine Ext.alloc ?_ _) | (with_reducible assumption) | ((with_reducible refine Ext.setCell ?_ ?_ _); rotate_left; (first | exact Nat.le_refl _ | ((try dsimp only); (try simp only [World.size_alloc, grow_size, World.size_setCell]); omega)))))))))))
    refine wpQuiet_nil ?_
    intro wq hq
    obtain ⟨d9, rfl⟩ := hq
    go_wp2
    go_ret
    exact ⟨rfl, Ext.trans HX.out (by repeat (first | (with_reducible exact Ext.refl _) | (with_reducible refine Ext.undrew ?_) | (with_reducible refine Ext.grow ?_ _) | (with_reducible refine Ext.drew ?_) | (with_reducible refine Ext.drewN ?_ _) | (with_reducible refine Ext.alloc ?_ _) | (with_reducible assumption) | ((with_reducible refine Ext.setCell ?_ ?_ _); rotate_left; (first | exact Nat.le_refl _ | ((try dsimp only); (try simp only [World.size_alloc, grow_size, World.size_setCell]); omega)))))⟩
  · have hl1 : (900 : Int) < (a1.size : Int) := by omega
    go_enter Tryd.func3, Tryd.ntmps3
    go_wp2_with fail
    refine Calls.mono (HHD.out _ (by repeat (first | (with_reducible exact Ext.refl _) | (with_reducible refine Ext.undrew ?_) | (with_reducible refine Ext.grow ?_ _) | (with_reducible refine Ext.drew ?_) | (with_reducible refine Ext.drewN ?_ _) | (with_reducible refine Ext.alloc ?_ _) | (with_reducible assumption) | ((with_reducible refine Ext.setCell ?_ ?_ _); rotate_left; (first | exact Nat.le_refl _ | ((try dsimp only); (try simp only [World.size_alloc, grow_size, World.size_setCell]); omega)))))) ?_
    rintro e W1 ⟨rfl, hy⟩
    go_wp2
    go_ret
    exact ⟨rfl, Ext.trans (Ext.alloc (Ext.refl w) _) hy⟩
end asmTells

end Go.Proofs.YtdhpbofpomefoaaDoor
