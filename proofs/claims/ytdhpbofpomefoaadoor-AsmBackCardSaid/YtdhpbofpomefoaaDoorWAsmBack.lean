/- The walk of AsmBack. -/
import Derived.Test.YtdhpbofpomefoaaDoorAsmH0
import Derived.Test.YtdhpbofpomefoaaDoorAsmB0
namespace Go.Proofs.YtdhpbofpomefoaaDoor
set_option linter.unusedSimpArgs false
set_option linter.unusedVariables false
open Go.RowKit

open Go.Deep Go.RowKit
namespace asmBack
set_option linter.unusedSimpArgs false
set_option linter.unusedVariables false
set_option maxRecDepth 100000 in
set_option maxHeartbeats 8000000 in
theorem walk (op0 ra0 rb0 rc0 : Int) (a1 : ByteArray) (w : World) (wop0 : (Lit.int .i64 op0).wf = true) (wra0 : (Lit.int .i64 ra0).wf = true) (wrb0 : (Lit.int .i64 rb0).wf = true) (wrc0 : (Lit.int .i64 rc0).wf = true) (w1 : a1.size ≤ maxLen) (hTab : Tb w) :
    Calls Tryd.prog 5 #[.agg #[.int .i64 op0, .int .i64 ra0, .int .i64 rb0, .int .i64 rc0], .string a1] w fun e w' => e = .returned (.bool true) ∧ Ext w w' := by
  have HT := hid hTab
  clear hTab
  have HHD : Hid (∀ W, Ext w W → Calls Tryd.prog 9 #[] W fun e w' => e = .returned (.bool true) ∧ Ext W w') := hid (fun W hx => head_ W (HT.out.ext hx))
  cases h0 : rightI op0 ra0 rb0 rc0 with
  | false =>
    have HRR : Hid (∀ W, Ext w W → Calls Tryd.prog 21 #[.agg #[.int .i64 op0, .int .i64 ra0, .int .i64 rb0, .int .i64 rc0]] W fun e w' => e = .returned (.bool false) ∧ Ext W w') := hid (fun W hx => by have h := rright15 op0 ra0 rb0 rc0 W; rw [h0] at h; exact h)
    have htx : textL op0 ra0 rb0 rc0 = [] := by unfold textL; rw [if_neg (by rw [h0]; decide)]
    have HTX : Hid (∀ W, Ext w W → Calls Tryd.prog 14 #[.agg #[.int .i64 op0, .int .i64 ra0, .int .i64 rb0, .int .i64 rc0]] W fun e w' => e = .returned (.string ⟨#[]⟩) ∧ Ext W w') := hid (fun W hx => by have h := text_ op0 ra0 rb0 rc0 W (HT.out.ext hx); rw [htx] at h; exact h)
    clear h0 htx wop0 wra0 wrb0 wrc0
    by_cases hlen : a1.size ≤ 900
    · have hl1 : ¬ (900 : Int) < (a1.size : Int) := by omega
      rcases parse_is good_A a1.data.toList with ⟨z, hz, hzt, hzp⟩ | ⟨_, hzp⟩
      · obtain ⟨zo, za, zb, zc⟩ := z
        have hza : (⟨(textL zo za zb zc).toArray⟩ : ByteArray) = a1 := by rw [show textL zo za zb zc = a1.data.toList from hzt]
        have hne : a1.toList.isEmpty = false := by
          rw [ByteArray.toList_eq, ← hzt]
          have h9 := text_ne hz
          cases h8 : In.text ⟨zo, za, zb, zc⟩ with
          | nil => exact absurd h8 h9
          | cons q r => rfl
        have HPS : Hid (∀ W, Ext w W → Calls Tryd.prog 10 #[.string a1] W fun e w' => e = .returned (.tuple #[.agg #[.int .i64 zo, .int .i64 za, .int .i64 zb, .int .i64 zc], .bool true]) ∧ Ext W w') := hid (fun W hx => by have h := parse_ a1 W (HT.out.ext hx) (by omega); rw [show parseN valT a1.data.toList = _ from hzp] at h; exact h)
        have HTZ : Hid (∀ W, Ext w W → Calls Tryd.prog 14 #[.agg #[.int .i64 zo, .int .i64 za, .int .i64 zb, .int .i64 zc]] W fun e w' => e = .returned (.string a1) ∧ Ext W w') := hid (fun W hx => by have h := text_ zo za zb zc W (HT.out.ext hx); rw [hza] at h; exact h)
        clear hz hzt hzp hza
        go_enter Tryd.func5, Tryd.ntmps5
        go_upto_region 1 with (fail)
        refine wp_gen (fun V => Hid (Ext w V) ∧ Hid (Row V w.heap.size 0 [.int .i64 op0, .int .i64 ra0, .int .i64 rb0, .int .i64 rc0])) ⟨hid (by repeat (first | (with_reducible exact Ext.refl _) | (with_reducible refine Ext.undrew ?_) | (with_reducible refine Ext.grow ?_ _) | (with_reducible refine Ext.drew ?_) | (with_reducible refine Ext.drewN ?_ _) | (with_reducible refine Ext.alloc ?_ _) | (with_reducible assumption) | ((with_reducible refine Ext.setCell ?_ ?_ _); rotate_left; (first | exact Nat.le_refl _ | ((try dsimp only); (try simp only [World.size_alloc, grow_size, World.size_setCell]); omega))))), hid (Row.new w _ _)⟩ ?_
        rintro W0 ⟨HX, HRA⟩
        generalize w.heap.size = bx at HRA ⊢
        have x0 : World.cell? W0 ⟨bx, 0, none⟩ = some (.int .i64 op0) := by have := HRA.out.at_ 0 _ rfl; simpa using this
        have x1 : World.cell? W0 ⟨bx, 1, none⟩ = some (.int .i64 ra0) := by have := HRA.out.at_ 1 _ rfl; simpa using this
        have x2 : World.cell? W0 ⟨bx, 2, none⟩ = some (.int .i64 rb0) := by have := HRA.out.at_ 2 _ rfl; simpa using this
        have x3 : World.cell? W0 ⟨bx, 3, none⟩ = some (.int .i64 rc0) := by have := HRA.out.at_ 3 _ rfl; simpa using this
        have xl := HRA.out.lt
        go_wp2_with fail
        refine Calls.mono (HHD.out _ (Ext.trans HX.out (by repeat (first | (with_reducible exact Ext.refl _) | (with_reducible refine Ext.undrew ?_) | (with_reducible refine Ext.grow ?_ _) | (with_reducible refine Ext.drew ?_) | (with_reducible refine Ext.drewN ?_ _) | (with_reducible refine Ext.alloc ?_ _) | (with_reducible assumption) | ((with_reducible refine Ext.setCell ?_ ?_ _); rotate_left; (first | exact Nat.le_refl _ | ((try dsimp only); (try simp only [World.size_alloc, grow_size, World.size_setCell]); omega))))))) ?_
        rintro e W1 ⟨rfl, hy⟩
        replace HX := hid (Ext.trans (Ext.trans HX.out (by repeat (first | (with_reducible exact Ext.refl _) | (with_reducible refine Ext.undrew ?_) | (with_reducible refine Ext.grow ?_ _) | (with_reducible refine Ext.drew ?_) | (with_reducible refine Ext.drewN ?_ _) | (with_reducible refine Ext.alloc ?_ _) | (with_reducible assumption) | ((with_reducible refine Ext.setCell ?_ ?_ _); rotate_left; (first | exact Nat.le_refl _ | ((try dsimp only); (try simp only [World.size_alloc, grow_size, World.size_setCell]); omega)))))) hy)
        replace HRA := hid ((HRA.out.ext (by repeat (first | (with_reducible exact Ext.refl _) | (with_reducible refine Ext.undrew ?_) | (with_reducible refine Ext.grow ?_ _) | (with_reducible refine Ext.drew ?_) | (with_reducible refine Ext.drewN ?_ _) | (with_reducible refine Ext.alloc ?_ _) | (with_reducible assumption) | ((with_reducible refine Ext.setCell ?_ ?_ _); rotate_left; (first | exact Nat.le_refl _ | ((try dsimp only); (try simp only [World.size_alloc, grow_size, World.size_setCell]); omega)))))).ext hy)
        clear x0 x1 x2 x3 xl
        clear hy
        have x0 : World.cell? W1 ⟨bx, 0, none⟩ = some (.int .i64 op0) := by have := HRA.out.at_ 0 _ rfl; simpa using this
        have x1 : World.cell? W1 ⟨bx, 1, none⟩ = some (.int .i64 ra0) := by have := HRA.out.at_ 1 _ rfl; simpa using this
        have x2 : World.cell? W1 ⟨bx, 2, none⟩ = some (.int .i64 rb0) := by have := HRA.out.at_ 2 _ rfl; simpa using this
        have x3 : World.cell? W1 ⟨bx, 3, none⟩ = some (.int .i64 rc0) := by have := HRA.out.at_ 3 _ rfl; simpa using this
        have xl := HRA.out.lt
        go_wp2_with fail
        refine Calls.mono (HTX.out _ (Ext.trans HX.out (by repeat (first | (with_reducible exact Ext.refl _) | (with_reducible refine Ext.undrew ?_) | (with_reducible refine Ext.grow ?_ _) | (with_reducible refine Ext.drew ?_) | (with_reducible refine Ext.drewN ?_ _) | (with_reducible refine Ext.alloc ?_ _) | (with_reducible assumption) | ((with_reducible refine Ext.setCell ?_ ?_ _); rotate_left; (first | exact Nat.le_refl _ | ((try dsimp only); (try simp only [World.size_alloc, grow_size, World.size_setCell]); omega))))))) ?_
        rintro e W2 ⟨rfl, hy⟩
        replace HX := hid (Ext.trans (Ext.trans HX.out (by repeat (first | (with_reducible exact Ext.refl _) | (with_reducible refine Ext.undrew ?_) | (with_reducible refine Ext.grow ?_ _) | (with_reducible refine Ext.drew ?_) | (with_reducible refine Ext.drewN ?_ _) | (with_reducible refine Ext.alloc ?_ _) | (with_reducible assumption) | ((with_reducible refine Ext.setCell ?_ ?_ _); rotate_left; (first | exact Nat.le_refl _ | ((try dsimp only); (try simp only [World.size_alloc, grow_size, World.size_setCell]); omega)))))) hy)
        replace HRA := hid ((HRA.out.ext (by repeat (first | (with_reducible exact Ext.refl _) | (with_reducible refine Ext.undrew ?_) | (with_reducible refine Ext.grow ?_ _) | (with_reducible refine Ext.drew ?_) | (with_reducible refine Ext.drewN ?_ _) | (with_reducible refine Ext.alloc ?_ _) | (with_reducible assumption) | ((with_reducible refine Ext.setCell ?_ ?_ _); rotate_left; (first | exact Nat.le_refl _ | ((try dsimp only); (try simp only [World.size_alloc, grow_size, World.size_setCell]); omega)))))).ext hy)
        clear x0 x1 x2 x3 xl
        clear hy
        have x0 : World.cell? W2 ⟨bx, 0, none⟩ = some (.int .i64 op0) := by have := HRA.out.at_ 0 _ rfl; simpa using this
        have x1 : World.cell? W2 ⟨bx, 1, none⟩ = some (.int .i64 ra0) := by have := HRA.out.at_ 1 _ rfl; simpa using this
        have x2 : World.cell? W2 ⟨bx, 2, none⟩ = some (.int .i64 rb0) := by have := HRA.out.at_ 2 _ rfl; simpa using this
        have x3 : World.cell? W2 ⟨bx, 3, none⟩ = some (.int .i64 rc0) := by have := HRA.out.at_ 3 _ rfl; simpa using this
        have xl := HRA.out.lt
        go_wp2_with fail
        refine Calls.mono (HRR.out _ (Ext.trans HX.out (by repeat (first | (with_reducible exact Ext.refl _) | (with_reducible refine Ext.undrew ?_) | (with_reducible refine Ext.grow ?_ _) | (with_reducible refine Ext.drew ?_) | (with_reducible refine Ext.drewN ?_ _) | (with_reducible refine Ext.alloc ?_ _) | (with_reducible assumption) | ((with_reducible refine Ext.setCell ?_ ?_ _); rotate_left; (first | exact Nat.le_refl _ | ((try dsimp only); (try simp only [World.size_alloc, grow_size, World.size_setCell]); omega))))))) ?_
        rintro e W3 ⟨rfl, hy⟩
        replace HX := hid (Ext.trans (Ext.trans HX.out (by repeat (first | (with_reducible exact Ext.refl _) | (with_reducible refine Ext.undrew ?_) | (with_reducible refine Ext.grow ?_ _) | (with_reducible refine Ext.drew ?_) | (with_reducible refine Ext.drewN ?_ _) | (with_reducible refine Ext.alloc ?_ _) | (with_reducible assumption) | ((with_reducible refine Ext.setCell ?_ ?_ _); rotate_left; (first | exact Nat.le_refl _ | ((try dsimp only); (try simp only [World.size_alloc, grow_size, World.size_setCell]); omega)))))) hy)
        replace HRA := hid ((HRA.out.ext (by repeat (first | (with_reducible exact Ext.refl _) | (with_reducible refine Ext.undrew ?_) | (with_reducible refine Ext.grow ?_ _) | (with_reducible refine Ext.drew ?_) | (with_reducible refine Ext.drewN ?_ _) | (with_reducible refine Ext.alloc ?_ _) | (with_reducible assumption) | ((with_reducible refine Ext.setCell ?_ ?_ _); rotate_left; (first | exact Nat.le_refl _ | ((try dsimp only); (try simp only [World.size_alloc, grow_size, World.size_setCell]); omega)))))).ext hy)
        clear x0 x1 x2 x3 xl
        clear hy
        have x0 : World.cell? W3 ⟨bx, 0, none⟩ = some (.int .i64 op0) := by have := HRA.out.at_ 0 _ rfl; simpa using this
        have x1 : World.cell? W3 ⟨bx, 1, none⟩ = some (.int .i64 ra0) := by have := HRA.out.at_ 1 _ rfl; simpa using this
        have x2 : World.cell? W3 ⟨bx, 2, none⟩ = some (.int .i64 rb0) := by have := HRA.out.at_ 2 _ rfl; simpa using this
        have x3 : World.cell? W3 ⟨bx, 3, none⟩ = some (.int .i64 rc0) := by have := HRA.out.at_ 3 _ rfl; simpa using this
        have xl := HRA.out.lt
        go_wp2_with fail
        refine Calls.mono (HPS.out _ (Ext.trans HX.out (by repeat (first | (with_reducible exact Ext.refl _) | (with_reducible refine Ext.undrew ?_) | (with_reducible refine Ext.grow ?_ _) | (with_reducible refine Ext.drew ?_) | (with_reducible refine Ext.drewN ?_ _) | (with_reducible refine Ext.alloc ?_ _) | (with_reducible assumption) | ((with_reducible refine Ext.setCell ?_ ?_ _); rotate_left; (first | exact Nat.le_refl _ | ((try dsimp only); (try simp only [World.size_alloc, grow_size, World.size_setCell]); omega))))))) ?_
        rintro e W4 ⟨rfl, hy⟩
        replace HX := hid (Ext.trans (Ext.trans HX.out (by repeat (first | (with_reducible exact Ext.refl _) | (with_reducible refine Ext.undrew ?_) | (with_reducible refine Ext.grow ?_ _) | (with_reducible refine Ext.drew ?_) | (with_reducible refine Ext.drewN ?_ _) | (with_reducible refine Ext.alloc ?_ _) | (with_reducible assumption) | ((with_reducible refine Ext.setCell ?_ ?_ _); rotate_left; (first | exact Nat.le_refl _ | ((try dsimp only); (try simp only [World.size_alloc, grow_size, World.size_setCell]); omega)))))) hy)
        replace HRA := hid ((HRA.out.ext (by repeat (first | (with_reducible exact Ext.refl _) | (with_reducible refine Ext.undrew ?_) | (with_reducible refine Ext.grow ?_ _) | (with_reducible refine Ext.drew ?_) | (with_reducible refine Ext.drewN ?_ _) | (with_reducible refine Ext.alloc ?_ _) | (with_reducible assumption) | ((with_reducible refine Ext.setCell ?_ ?_ _); rotate_left; (first | exact Nat.le_refl _ | ((try dsimp only); (try simp only [World.size_alloc, grow_size, World.size_setCell]); omega)))))).ext hy)
        clear x0 x1 x2 x3 xl
        clear hy
        go_wp2_with fail
        refine Calls.mono (HTZ.out _ (Ext.trans HX.out (by repeat (first | (with_reducible exact Ext.refl _) | (with_reducible refine Ext.undrew ?_) | (with_reducible refine Ext.grow ?_ _) | (with_reducible refine Ext.drew ?_) | (with_reducible refine Ext.drewN ?_ _) | (with_reducible refine Ext.alloc ?_ _) | (with_reducible assumption) | ((with_reducible refine Ext.setCell ?_ ?_ _); rotate_left; (first | exact Nat.le_refl _ | ((try dsimp only); (try simp only [World.size_alloc, grow_size, World.size_setCell]); omega))))))) ?_
        rintro e W5 ⟨rfl, hy⟩
        replace HX := hid (Ext.trans (Ext.trans HX.out (by repeat (first | (with_reducible exact Ext.refl _) | (with_reducible refine Ext.undrew ?_) | (with_reducible refine Ext.grow ?_ _) | (with_reducible refine Ext.drew ?_) | (with_reducible refine Ext.drewN ?_ _) | (with_reducible refine Ext.alloc ?_ _) | (with_reducible assumption) | ((with_reducible refine Ext.setCell ?_ ?_ _); rotate_left; (first | exact Nat.le_refl _ | ((try dsimp only); (try simp only [World.size_alloc, grow_size, World.size_setCell]); omega)))))) hy)
        clear hy
        go_wp2_with fail
        go_ret
        exact ⟨rfl, Ext.trans HX.out (by repeat (first | (with_reducible exact Ext.refl _) | (with_reducible refine Ext.undrew ?_) | (with_reducible refine Ext.grow ?_ _) | (with_reducible refine Ext.drew ?_) | (with_reducible refine Ext.drewN ?_ _) | (with_reducible refine Ext.alloc ?_ _) | (with_reducible assumption) | ((with_reducible refine Ext.setCell ?_ ?_ _); rotate_left; (first | exact Nat.le_refl _ | ((try dsimp only); (try simp only [World.size_alloc, grow_size, World.size_setCell]); omega)))))⟩
      · skip
        have HPS : Hid (∀ W, Ext w W → Calls Tryd.prog 10 #[.string a1] W fun e w' => e = .returned (.tuple #[.agg #[.int .i64 0, .int .i64 0, .int .i64 0, .int .i64 0], .bool false]) ∧ Ext W w') := hid (fun W hx => by have h := parse_ a1 W (HT.out.ext hx) (by omega); rw [show parseN valT a1.data.toList = _ from hzp] at h; exact h)
        clear hzp
        go_enter Tryd.func5, Tryd.ntmps5
        go_upto_region 1 with (fail)
        refine wp_gen (fun V => Hid (Ext w V) ∧ Hid (Row V w.heap.size 0 [.int .i64 op0, .int .i64 ra0, .int .i64 rb0, .int .i64 rc0])) ⟨hid (by repeat (first | (with_reducible exact Ext.refl _) | (with_reducible refine Ext.undrew ?_) | (with_reducible refine Ext.grow ?_ _) | (with_reducible refine Ext.drew ?_) | (with_reducible refine Ext.drewN ?_ _) | (with_reducible refine Ext.alloc ?_ _) | (with_reducible assumption) | ((with_reducible refine Ext.setCell ?_ ?_ _); rotate_left; (first | exact Nat.le_refl _ | ((try dsimp only); (try simp only [World.size_alloc, grow_size, World.size_setCell]); omega))))), hid (Row.new w _ _)⟩ ?_
        rintro W0 ⟨HX, HRA⟩
        generalize w.heap.size = bx at HRA ⊢
        have x0 : World.cell? W0 ⟨bx, 0, none⟩ = some (.int .i64 op0) := by have := HRA.out.at_ 0 _ rfl; simpa using this
        have x1 : World.cell? W0 ⟨bx, 1, none⟩ = some (.int .i64 ra0) := by have := HRA.out.at_ 1 _ rfl; simpa using this
        have x2 : World.cell? W0 ⟨bx, 2, none⟩ = some (.int .i64 rb0) := by have := HRA.out.at_ 2 _ rfl; simpa using this
        have x3 : World.cell? W0 ⟨bx, 3, none⟩ = some (.int .i64 rc0) := by have := HRA.out.at_ 3 _ rfl; simpa using this
        have xl := HRA.out.lt
        go_wp2_with fail
        refine Calls.mono (HHD.out _ (Ext.trans HX.out (by repeat (first | (with_reducible exact Ext.refl _) | (with_reducible refine Ext.undrew ?_) | (with_reducible refine Ext.grow ?_ _) | (with_reducible refine Ext.drew ?_) | (with_reducible refine Ext.drewN ?_ _) | (with_reducible refine Ext.alloc ?_ _) | (with_reducible assumption) | ((with_reducible refine Ext.setCell ?_ ?_ _); rotate_left; (first | exact Nat.le_refl _ | ((try dsimp only); (try simp only [World.size_alloc, grow_size, World.size_setCell]); omega))))))) ?_
        rintro e W1 ⟨rfl, hy⟩
        replace HX := hid (Ext.trans (Ext.trans HX.out (by repeat (first | (with_reducible exact Ext.refl _) | (with_reducible refine Ext.undrew ?_) | (with_reducible refine Ext.grow ?_ _) | (with_reducible refine Ext.drew ?_) | (with_reducible refine Ext.drewN ?_ _) | (with_reducible refine Ext.alloc ?_ _) | (with_reducible assumption) | ((with_reducible refine Ext.setCell ?_ ?_ _); rotate_left; (first | exact Nat.le_refl _ | ((try dsimp only); (try simp only [World.size_alloc, grow_size, World.size_setCell]); omega)))))) hy)
        replace HRA := hid ((HRA.out.ext (by repeat (first | (with_reducible exact Ext.refl _) | (with_reducible refine Ext.undrew ?_) | (with_reducible refine Ext.grow ?_ _) | (with_reducible refine Ext.drew ?_) | (with_reducible refine Ext.drewN ?_ _) | (with_reducible refine Ext.alloc ?_ _) | (with_reducible assumption) | ((with_reducible refine Ext.setCell ?_ ?_ _); rotate_left; (first | exact Nat.le_refl _ | ((try dsimp only); (try simp only [World.size_alloc, grow_size, World.size_setCell]); omega)))))).ext hy)
        clear x0 x1 x2 x3 xl
        clear hy
        have x0 : World.cell? W1 ⟨bx, 0, none⟩ = some (.int .i64 op0) := by have := HRA.out.at_ 0 _ rfl; simpa using this
        have x1 : World.cell? W1 ⟨bx, 1, none⟩ = some (.int .i64 ra0) := by have := HRA.out.at_ 1 _ rfl; simpa using this
        have x2 : World.cell? W1 ⟨bx, 2, none⟩ = some (.int .i64 rb0) := by have := HRA.out.at_ 2 _ rfl; simpa using this
        have x3 : World.cell? W1 ⟨bx, 3, none⟩ = some (.int .i64 rc0) := by have := HRA.out.at_ 3 _ rfl; simpa using this
        have xl := HRA.out.lt
        go_wp2_with fail
        refine Calls.mono (HTX.out _ (Ext.trans HX.out (by repeat (first | (with_reducible exact Ext.refl _) | (with_reducible refine Ext.undrew ?_) | (with_reducible refine Ext.grow ?_ _) | (with_reducible refine Ext.drew ?_) | (with_reducible refine Ext.drewN ?_ _) | (with_reducible refine Ext.alloc ?_ _) | (with_reducible assumption) | ((with_reducible refine Ext.setCell ?_ ?_ _); rotate_left; (first | exact Nat.le_refl _ | ((try dsimp only); (try simp only [World.size_alloc, grow_size, World.size_setCell]); omega))))))) ?_
        rintro e W2 ⟨rfl, hy⟩
        replace HX := hid (Ext.trans (Ext.trans HX.out (by repeat (first | (with_reducible exact Ext.refl _) | (with_reducible refine Ext.undrew ?_) | (with_reducible refine Ext.grow ?_ _) | (with_reducible refine Ext.drew ?_) | (with_reducible refine Ext.drewN ?_ _) | (with_reducible refine Ext.alloc ?_ _) | (with_reducible assumption) | ((with_reducible refine Ext.setCell ?_ ?_ _); rotate_left; (first | exact Nat.le_refl _ | ((try dsimp only); (try simp only [World.size_alloc, grow_size, World.size_setCell]); omega)))))) hy)
        replace HRA := hid ((HRA.out.ext (by repeat (first | (with_reducible exact Ext.refl _) | (with_reducible refine Ext.undrew ?_) | (with_reducible refine Ext.grow ?_ _) | (with_reducible refine Ext.drew ?_) | (with_reducible refine Ext.drewN ?_ _) | (with_reducible refine Ext.alloc ?_ _) | (with_reducible assumption) | ((with_reducible refine Ext.setCell ?_ ?_ _); rotate_left; (first | exact Nat.le_refl _ | ((try dsimp only); (try simp only [World.size_alloc, grow_size, World.size_setCell]); omega)))))).ext hy)
        clear x0 x1 x2 x3 xl
        clear hy
        have x0 : World.cell? W2 ⟨bx, 0, none⟩ = some (.int .i64 op0) := by have := HRA.out.at_ 0 _ rfl; simpa using this
        have x1 : World.cell? W2 ⟨bx, 1, none⟩ = some (.int .i64 ra0) := by have := HRA.out.at_ 1 _ rfl; simpa using this
        have x2 : World.cell? W2 ⟨bx, 2, none⟩ = some (.int .i64 rb0) := by have := HRA.out.at_ 2 _ rfl; simpa using this
        have x3 : World.cell? W2 ⟨bx, 3, none⟩ = some (.int .i64 rc0) := by have := HRA.out.at_ 3 _ rfl; simpa using this
        have xl := HRA.out.lt
        go_wp2_with fail
        refine Calls.mono (HRR.out _ (Ext.trans HX.out (by repeat (first | (with_reducible exact Ext.refl _) | (with_reducible refine Ext.undrew ?_) | (with_reducible refine Ext.grow ?_ _) | (with_reducible refine Ext.drew ?_) | (with_reducible refine Ext.drewN ?_ _) | (with_reducible refine Ext.alloc ?_ _) | (with_reducible assumption) | ((with_reducible refine Ext.setCell ?_ ?_ _); rotate_left; (first | exact Nat.le_refl _ | ((try dsimp only); (try simp only [World.size_alloc, grow_size, World.size_setCell]); omega))))))) ?_
        rintro e W3 ⟨rfl, hy⟩
        replace HX := hid (Ext.trans (Ext.trans HX.out (by repeat (first | (with_reducible exact Ext.refl _) | (with_reducible refine Ext.undrew ?_) | (with_reducible refine Ext.grow ?_ _) | (with_reducible refine Ext.drew ?_) | (with_reducible refine Ext.drewN ?_ _) | (with_reducible refine Ext.alloc ?_ _) | (with_reducible assumption) | ((with_reducible refine Ext.setCell ?_ ?_ _); rotate_left; (first | exact Nat.le_refl _ | ((try dsimp only); (try simp only [World.size_alloc, grow_size, World.size_setCell]); omega)))))) hy)
        replace HRA := hid ((HRA.out.ext (by repeat (first | (with_reducible exact Ext.refl _) | (with_reducible refine Ext.undrew ?_) | (with_reducible refine Ext.grow ?_ _) | (with_reducible refine Ext.drew ?_) | (with_reducible refine Ext.drewN ?_ _) | (with_reducible refine Ext.alloc ?_ _) | (with_reducible assumption) | ((with_reducible refine Ext.setCell ?_ ?_ _); rotate_left; (first | exact Nat.le_refl _ | ((try dsimp only); (try simp only [World.size_alloc, grow_size, World.size_setCell]); omega)))))).ext hy)
        clear x0 x1 x2 x3 xl
        clear hy
        have x0 : World.cell? W3 ⟨bx, 0, none⟩ = some (.int .i64 op0) := by have := HRA.out.at_ 0 _ rfl; simpa using this
        have x1 : World.cell? W3 ⟨bx, 1, none⟩ = some (.int .i64 ra0) := by have := HRA.out.at_ 1 _ rfl; simpa using this
        have x2 : World.cell? W3 ⟨bx, 2, none⟩ = some (.int .i64 rb0) := by have := HRA.out.at_ 2 _ rfl; simpa using this
        have x3 : World.cell? W3 ⟨bx, 3, none⟩ = some (.int .i64 rc0) := by have := HRA.out.at_ 3 _ rfl; simpa using this
        have xl := HRA.out.lt
        go_wp2_with fail
        refine Calls.mono (HPS.out _ (Ext.trans HX.out (by repeat (first | (with_reducible exact Ext.refl _) | (with_reducible refine Ext.undrew ?_) | (with_reducible refine Ext.grow ?_ _) | (with_reducible refine Ext.drew ?_) | (with_reducible refine Ext.drewN ?_ _) | (with_reducible refine Ext.alloc ?_ _) | (with_reducible assumption) | ((with_reducible refine Ext.setCell ?_ ?_ _); rotate_left; (first | exact Nat.le_refl _ | ((try dsimp only); (try simp only [World.size_alloc, grow_size, World.size_setCell]); omega))))))) ?_
        rintro e W4 ⟨rfl, hy⟩
        replace HX := hid (Ext.trans (Ext.trans HX.out (by repeat (first | (with_reducible exact Ext.refl _) | (with_reducible refine Ext.undrew ?_) | (with_reducible refine Ext.grow ?_ _) | (with_reducible refine Ext.drew ?_) | (with_reducible refine Ext.drewN ?_ _) | (with_reducible refine Ext.alloc ?_ _) | (with_reducible assumption) | ((with_reducible refine Ext.setCell ?_ ?_ _); rotate_left; (first | exact Nat.le_refl _ | ((try dsimp only); (try simp only [World.size_alloc, grow_size, World.size_setCell]); omega)))))) hy)
        replace HRA := hid ((HRA.out.ext (by repeat (first | (with_reducible exact Ext.refl _) | (with_reducible refine Ext.undrew ?_) | (with_reducible refine Ext.grow ?_ _) | (with_reducible refine Ext.drew ?_) | (with_reducible refine Ext.drewN ?_ _) | (with_reducible refine Ext.alloc ?_ _) | (with_reducible assumption) | ((with_reducible refine Ext.setCell ?_ ?_ _); rotate_left; (first | exact Nat.le_refl _ | ((try dsimp only); (try simp only [World.size_alloc, grow_size, World.size_setCell]); omega)))))).ext hy)
        clear x0 x1 x2 x3 xl
        clear hy
        have x0 : World.cell? W4 ⟨bx, 0, none⟩ = some (.int .i64 op0) := by have := HRA.out.at_ 0 _ rfl; simpa using this
        have x1 : World.cell? W4 ⟨bx, 1, none⟩ = some (.int .i64 ra0) := by have := HRA.out.at_ 1 _ rfl; simpa using this
        have x2 : World.cell? W4 ⟨bx, 2, none⟩ = some (.int .i64 rb0) := by have := HRA.out.at_ 2 _ rfl; simpa using this
        have x3 : World.cell? W4 ⟨bx, 3, none⟩ = some (.int .i64 rc0) := by have := HRA.out.at_ 3 _ rfl; simpa using this
        have xl := HRA.out.lt
        go_wp2_with fail
        go_ret
        exact ⟨rfl, Ext.trans HX.out (by repeat (first | (with_reducible exact Ext.refl _) | (with_reducible refine Ext.undrew ?_) | (with_reducible refine Ext.grow ?_ _) | (with_reducible refine Ext.drew ?_) | (with_reducible refine Ext.drewN ?_ _) | (with_reducible refine Ext.alloc ?_ _) | (with_reducible assumption) | ((with_reducible refine Ext.setCell ?_ ?_ _); rotate_left; (first | exact Nat.le_refl _ | ((try dsimp only); (try simp only [World.size_alloc, grow_size, World.size_setCell]); omega)))))⟩
    · have hl1 : (900 : Int) < (a1.size : Int) := by omega
      go_enter Tryd.func5, Tryd.ntmps5
      go_upto_region 1 with (fail)
      refine wp_gen (fun V => Hid (Ext w V) ∧ Hid (Row V w.heap.size 0 [.int .i64 op0, .int .i64 ra0, .int .i64 rb0, .int .i64 rc0])) ⟨hid (by repeat (first | (with_reducible exact Ext.refl _) | (with_reducible refine Ext.undrew ?_) | (with_reducible refine Ext.grow ?_ _) | (with_reducible refine Ext.drew ?_) | (with_reducible refine Ext.drewN ?_ _) | (with_reducible refine Ext.alloc ?_ _) | (with_reducible assumption) | ((with_reducible refine Ext.setCell ?_ ?_ _); rotate_left; (first | exact Nat.le_refl _ | ((try dsimp only); (try simp only [World.size_alloc, grow_size, World.size_setCell]); omega))))), hid (Row.new w _ _)⟩ ?_
      rintro W0 ⟨HX, HRA⟩
      generalize w.heap.size = bx at HRA ⊢
      have x0 : World.cell? W0 ⟨bx, 0, none⟩ = some (.int .i64 op0) := by have := HRA.out.at_ 0 _ rfl; simpa using this
      have x1 : World.cell? W0 ⟨bx, 1, none⟩ = some (.int .i64 ra0) := by have := HRA.out.at_ 1 _ rfl; simpa using this
      have x2 : World.cell? W0 ⟨bx, 2, none⟩ = some (.int .i64 rb0) := by have := HRA.out.at_ 2 _ rfl; simpa using this
      have x3 : World.cell? W0 ⟨bx, 3, none⟩ = some (.int .i64 rc0) := by have := HRA.out.at_ 3 _ rfl; simpa using this
      have xl := HRA.out.lt
      go_wp2_with fail
      refine Calls.mono (HHD.out _ (Ext.trans HX.out (by repeat (first | (with_reducible exact Ext.refl _) | (with_reducible refine Ext.undrew ?_) | (with_reducible refine Ext.grow ?_ _) | (with_reducible refine Ext.drew ?_) | (with_reducible refine Ext.drewN ?_ _) | (with_reducible refine Ext.alloc ?_ _) | (with_reducible assumption) | ((with_reducible refine Ext.setCell ?_ ?_ _); rotate_left; (first | exact Nat.le_refl _ | ((try dsimp only); (try simp only [World.size_alloc, grow_size, World.size_setCell]); omega))))))) ?_
      rintro e W1 ⟨rfl, hy⟩
      replace HX := hid (Ext.trans (Ext.trans HX.out (by repeat (first | (with_reducible exact Ext.refl _) | (with_reducible refine Ext.undrew ?_) | (with_reducible refine Ext.grow ?_ _) | (with_reducible refine Ext.drew ?_) | (with_reducible refine Ext.drewN ?_ _) | (with_reducible refine Ext.alloc ?_ _) | (with_reducible assumption) | ((with_reducible refine Ext.setCell ?_ ?_ _); rotate_left; (first | exact Nat.le_refl _ | ((try dsimp only); (try simp only [World.size_alloc, grow_size, World.size_setCell]); omega)))))) hy)
      replace HRA := hid ((HRA.out.ext (by repeat (first | (with_reducible exact Ext.refl _) | (with_reducible refine Ext.undrew ?_) | (with_reducible refine Ext.grow ?_ _) | (with_reducible refine Ext.drew ?_) | (with_reducible refine Ext.drewN ?_ _) | (with_reducible refine Ext.alloc ?_ _) | (with_reducible assumption) | ((with_reducible refine Ext.setCell ?_ ?_ _); rotate_left; (first | exact Nat.le_refl _ | ((try dsimp only); (try simp only [World.size_alloc, grow_size, World.size_setCell]); omega)))))).ext hy)
      clear x0 x1 x2 x3 xl
      clear hy
      have x0 : World.cell? W1 ⟨bx, 0, none⟩ = some (.int .i64 op0) := by have := HRA.out.at_ 0 _ rfl; simpa using this
      have x1 : World.cell? W1 ⟨bx, 1, none⟩ = some (.int .i64 ra0) := by have := HRA.out.at_ 1 _ rfl; simpa using this
      have x2 : World.cell? W1 ⟨bx, 2, none⟩ = some (.int .i64 rb0) := by have := HRA.out.at_ 2 _ rfl; simpa using this
      have x3 : World.cell? W1 ⟨bx, 3, none⟩ = some (.int .i64 rc0) := by have := HRA.out.at_ 3 _ rfl; simpa using this
      have xl := HRA.out.lt
      go_wp2_with fail
      refine Calls.mono (HTX.out _ (Ext.trans HX.out (by repeat (first | (with_reducible exact Ext.refl _) | (with_reducible refine Ext.undrew ?_) | (with_reducible refine Ext.grow ?_ _) | (with_reducible refine Ext.drew ?_) | (with_reducible refine Ext.drewN ?_ _) | (with_reducible refine Ext.alloc ?_ _) | (with_reducible assumption) | ((with_reducible refine Ext.setCell ?_ ?_ _); rotate_left; (first | exact Nat.le_refl _ | ((try dsimp only); (try simp only [World.size_alloc, grow_size, World.size_setCell]); omega))))))) ?_
      rintro e W2 ⟨rfl, hy⟩
      replace HX := hid (Ext.trans (Ext.trans HX.out (by repeat (first | (with_reducible exact Ext.refl _) | (with_reducible refine Ext.undrew ?_) | (with_reducible refine Ext.grow ?_ _) | (with_reducible refine Ext.drew ?_) | (with_reducible refine Ext.drewN ?_ _) | (with_reducible refine Ext.alloc ?_ _) | (with_reducible assumption) | ((with_reducible refine Ext.setCell ?_ ?_ _); rotate_left; (first | exact Nat.le_refl _ | ((try dsimp only); (try simp only [World.size_alloc, grow_size, World.size_setCell]); omega)))))) hy)
      replace HRA := hid ((HRA.out.ext (by repeat (first | (with_reducible exact Ext.refl _) | (with_reducible refine Ext.undrew ?_) | (with_reducible refine Ext.grow ?_ _) | (with_reducible refine Ext.drew ?_) | (with_reducible refine Ext.drewN ?_ _) | (with_reducible refine Ext.alloc ?_ _) | (with_reducible assumption) | ((with_reducible refine Ext.setCell ?_ ?_ _); rotate_left; (first | exact Nat.le_refl _ | ((try dsimp only); (try simp only [World.size_alloc, grow_size, World.size_setCell]); omega)))))).ext hy)
      clear x0 x1 x2 x3 xl
      clear hy
      have x0 : World.cell? W2 ⟨bx, 0, none⟩ = some (.int .i64 op0) := by have := HRA.out.at_ 0 _ rfl; simpa using this
      have x1 : World.cell? W2 ⟨bx, 1, none⟩ = some (.int .i64 ra0) := by have := HRA.out.at_ 1 _ rfl; simpa using this
      have x2 : World.cell? W2 ⟨bx, 2, none⟩ = some (.int .i64 rb0) := by have := HRA.out.at_ 2 _ rfl; simpa using this
      have x3 : World.cell? W2 ⟨bx, 3, none⟩ = some (.int .i64 rc0) := by have := HRA.out.at_ 3 _ rfl; simpa using this
      have xl := HRA.out.lt
      go_wp2_with fail
      refine Calls.mono (HRR.out _ (Ext.trans HX.out (by repeat (first | (with_reducible exact Ext.refl _) | (with_reducible refine Ext.undrew ?_) | (with_reducible refine Ext.grow ?_ _) | (with_reducible refine Ext.drew ?_) | (with_reducible refine Ext.drewN ?_ _) | (with_reducible refine Ext.alloc ?_ _) | (with_reducible assumption) | ((with_reducible refine Ext.setCell ?_ ?_ _); rotate_left; (first | exact Nat.le_refl _ | ((try dsimp only); (try simp only [World.size_alloc, grow_size, World.size_setCell]); omega))))))) ?_
      rintro e W3 ⟨rfl, hy⟩
      replace HX := hid (Ext.trans (Ext.trans HX.out (by repeat (first | (with_reducible exact Ext.refl _) | (with_reducible refine Ext.undrew ?_) | (with_reducible refine Ext.grow ?_ _) | (with_reducible refine Ext.drew ?_) | (with_reducible refine Ext.drewN ?_ _) | (with_reducible refine Ext.alloc ?_ _) | (with_reducible assumption) | ((with_reducible refine Ext.setCell ?_ ?_ _); rotate_left; (first | exact Nat.le_refl _ | ((try dsimp only); (try simp only [World.size_alloc, grow_size, World.size_setCell]); omega)))))) hy)
      replace HRA := hid ((HRA.out.ext (by repeat (first | (with_reducible exact Ext.refl _) | (with_reducible refine Ext.undrew ?_) | (with_reducible refine Ext.grow ?_ _) | (with_reducible refine Ext.drew ?_) | (with_reducible refine Ext.drewN ?_ _) | (with_reducible refine Ext.alloc ?_ _) | (with_reducible assumption) | ((with_reducible refine Ext.setCell ?_ ?_ _); rotate_left; (first | exact Nat.le_refl _ | ((try dsimp only); (try simp only [World.size_alloc, grow_size, World.size_setCell]); omega)))))).ext hy)
      clear x0 x1 x2 x3 xl
      clear hy
      have x0 : World.cell? W3 ⟨bx, 0, none⟩ = some (.int .i64 op0) := by have := HRA.out.at_ 0 _ rfl; simpa using this
      have x1 : World.cell? W3 ⟨bx, 1, none⟩ = some (.int .i64 ra0) := by have := HRA.out.at_ 1 _ rfl; simpa using this
      have x2 : World.cell? W3 ⟨bx, 2, none⟩ = some (.int .i64 rb0) := by have := HRA.out.at_ 2 _ rfl; simpa using this
      have x3 : World.cell? W3 ⟨bx, 3, none⟩ = some (.int .i64 rc0) := by have := HRA.out.at_ 3 _ rfl; simpa using this
      have xl := HRA.out.lt
      go_wp2_with fail
      go_ret
      exact ⟨rfl, Ext.trans HX.out (by repeat (first | (with_reducible exact Ext.refl _) | (with_reducible refine Ext.undrew ?_) | (with_reducible refine Ext.grow ?_ _) | (with_reducible refine Ext.drew ?_) | (with_reducible refine Ext.drewN ?_ _) | (with_reducible refine Ext.alloc ?_ _) | (with_reducible assumption) | ((with_reducible refine Ext.setCell ?_ ?_ _); rotate_left; (first | exact Nat.le_refl _ | ((try dsimp only); (try simp only [World.size_alloc, grow_size, World.size_setCell]); omega)))))⟩
  | true =>
    have HRR : Hid (∀ W, Ext w W → Calls Tryd.prog 21 #[.agg #[.int .i64 op0, .int .i64 ra0, .int .i64 rb0, .int .i64 rc0]] W fun e w' => e = .returned (.bool true) ∧ Ext W w') := hid (fun W hx => by have h := rright15 op0 ra0 rb0 rc0 W; rw [h0] at h; exact h)
    obtain ⟨t, ht⟩ : ∃ t : ByteArray, (⟨(textL op0 ra0 rb0 rc0).toArray⟩ : ByteArray) = t := ⟨_, rfl⟩
    have HTX : Hid (∀ W, Ext w W → Calls Tryd.prog 14 #[.agg #[.int .i64 op0, .int .i64 ra0, .int .i64 rb0, .int .i64 rc0]] W fun e w' => e = .returned (.string t) ∧ Ext W w') := hid (fun W hx => by have h := text_ op0 ra0 rb0 rc0 W (HT.out.ext hx); rw [ht] at h; exact h)
    have htl : t.data.toList = textL op0 ra0 rb0 rc0 := by rw [← ht]
    have hsz : t.size ≤ 100 := by
      have h9 := textL_len op0 ra0 rb0 rc0
      rw [← ht]
      show (textL op0 ra0 rb0 rc0).toArray.size ≤ 100
      rw [List.size_toArray]
      omega
    have HPX : Hid (∀ W, Ext w W → Calls Tryd.prog 10 #[.string t] W fun e w' => e = .returned (.tuple #[.agg #[.int .i64 op0, .int .i64 ra0, .int .i64 rb0, .int .i64 rc0], .bool true]) ∧ Ext W w') := hid (fun W hx => by have h := parse_ t W (HT.out.ext hx) (by omega); rw [htl, show parseN valT (textL op0 ra0 rb0 rc0) = (⟨op0, ra0, rb0, rc0⟩, true) from parse_yes good_A (x := ⟨op0, ra0, rb0, rc0⟩) h0] at h; exact h)
    have hte : t.toList.isEmpty = false := by
      rw [ByteArray.toList_eq, htl]
      have h9 := text_ne (x := ⟨op0, ra0, rb0, rc0⟩) h0
      cases h8 : textL op0 ra0 rb0 rc0 with
      | nil => exact absurd h8 h9
      | cons q r => rfl
    clear h0 ht htl hsz wop0 wra0 wrb0 wrc0
    by_cases hlen : a1.size ≤ 900
    · have hl1 : ¬ (900 : Int) < (a1.size : Int) := by omega
      rcases parse_is good_A a1.data.toList with ⟨z, hz, hzt, hzp⟩ | ⟨_, hzp⟩
      · obtain ⟨zo, za, zb, zc⟩ := z
        have hza : (⟨(textL zo za zb zc).toArray⟩ : ByteArray) = a1 := by rw [show textL zo za zb zc = a1.data.toList from hzt]
        have hne : a1.toList.isEmpty = false := by
          rw [ByteArray.toList_eq, ← hzt]
          have h9 := text_ne hz
          cases h8 : In.text ⟨zo, za, zb, zc⟩ with
          | nil => exact absurd h8 h9
          | cons q r => rfl
        have HPS : Hid (∀ W, Ext w W → Calls Tryd.prog 10 #[.string a1] W fun e w' => e = .returned (.tuple #[.agg #[.int .i64 zo, .int .i64 za, .int .i64 zb, .int .i64 zc], .bool true]) ∧ Ext W w') := hid (fun W hx => by have h := parse_ a1 W (HT.out.ext hx) (by omega); rw [show parseN valT a1.data.toList = _ from hzp] at h; exact h)
        have HTZ : Hid (∀ W, Ext w W → Calls Tryd.prog 14 #[.agg #[.int .i64 zo, .int .i64 za, .int .i64 zb, .int .i64 zc]] W fun e w' => e = .returned (.string a1) ∧ Ext W w') := hid (fun W hx => by have h := text_ zo za zb zc W (HT.out.ext hx); rw [hza] at h; exact h)
        clear hz hzt hzp hza
        go_enter Tryd.func5, Tryd.ntmps5
        go_upto_region 1 with (fail)
        refine wp_gen (fun V => Hid (Ext w V) ∧ Hid (Row V w.heap.size 0 [.int .i64 op0, .int .i64 ra0, .int .i64 rb0, .int .i64 rc0])) ⟨hid (by repeat (first | (with_reducible exact Ext.refl _) | (with_reducible refine Ext.undrew ?_) | (with_reducible refine Ext.grow ?_ _) | (with_reducible refine Ext.drew ?_) | (with_reducible refine Ext.drewN ?_ _) | (with_reducible refine Ext.alloc ?_ _) | (with_reducible assumption) | ((with_reducible refine Ext.setCell ?_ ?_ _); rotate_left; (first | exact Nat.le_refl _ | ((try dsimp only); (try simp only [World.size_alloc, grow_size, World.size_setCell]); omega))))), hid (Row.new w _ _)⟩ ?_
        rintro W0 ⟨HX, HRA⟩
        generalize w.heap.size = bx at HRA ⊢
        have x0 : World.cell? W0 ⟨bx, 0, none⟩ = some (.int .i64 op0) := by have := HRA.out.at_ 0 _ rfl; simpa using this
        have x1 : World.cell? W0 ⟨bx, 1, none⟩ = some (.int .i64 ra0) := by have := HRA.out.at_ 1 _ rfl; simpa using this
        have x2 : World.cell? W0 ⟨bx, 2, none⟩ = some (.int .i64 rb0) := by have := HRA.out.at_ 2 _ rfl; simpa using this
        have x3 : World.cell? W0 ⟨bx, 3, none⟩ = some (.int .i64 rc0) := by have := HRA.out.at_ 3 _ rfl; simpa using this
        have xl := HRA.out.lt
        go_wp2_with fail
        refine Calls.mono (HHD.out _ (Ext.trans HX.out (by repeat (first | (with_reducible exact Ext.refl _) | (with_reducible refine Ext.undrew ?_) | (with_reducible refine Ext.grow ?_ _) | (with_reducible refine Ext.drew ?_) | (with_reducible refine Ext.drewN ?_ _) | (with_reducible refine Ext.alloc ?_ _) | (with_reducible assumption) | ((with_reducible refine Ext.setCell ?_ ?_ _); rotate_left; (first | exact Nat.le_refl _ | ((try dsimp only); (try simp only [World.size_alloc, grow_size, World.size_setCell]); omega))))))) ?_
        rintro e W1 ⟨rfl, hy⟩
        replace HX := hid (Ext.trans (Ext.trans HX.out (by repeat (first | (with_reducible exact Ext.refl _) | (with_reducible refine Ext.undrew ?_) | (with_reducible refine Ext.grow ?_ _) | (with_reducible refine Ext.drew ?_) | (with_reducible refine Ext.drewN ?_ _) | (with_reducible refine Ext.alloc ?_ _) | (with_reducible assumption) | ((with_reducible refine Ext.setCell ?_ ?_ _); rotate_left; (first | exact Nat.le_refl _ | ((try dsimp only); (try simp only [World.size_alloc, grow_size, World.size_setCell]); omega)))))) hy)
        replace HRA := hid ((HRA.out.ext (by repeat (first | (with_reducible exact Ext.refl _) | (with_reducible refine Ext.undrew ?_) | (with_reducible refine Ext.grow ?_ _) | (with_reducible refine Ext.drew ?_) | (with_reducible refine Ext.drewN ?_ _) | (with_reducible refine Ext.alloc ?_ _) | (with_reducible assumption) | ((with_reducible refine Ext.setCell ?_ ?_ _); rotate_left; (first | exact Nat.le_refl _ | ((try dsimp only); (try simp only [World.size_alloc, grow_size, World.size_setCell]); omega)))))).ext hy)
        clear x0 x1 x2 x3 xl
        clear hy
        have x0 : World.cell? W1 ⟨bx, 0, none⟩ = some (.int .i64 op0) := by have := HRA.out.at_ 0 _ rfl; simpa using this
        have x1 : World.cell? W1 ⟨bx, 1, none⟩ = some (.int .i64 ra0) := by have := HRA.out.at_ 1 _ rfl; simpa using this
        have x2 : World.cell? W1 ⟨bx, 2, none⟩ = some (.int .i64 rb0) := by have := HRA.out.at_ 2 _ rfl; simpa using this
        have x3 : World.cell? W1 ⟨bx, 3, none⟩ = some (.int .i64 rc0) := by have := HRA.out.at_ 3 _ rfl; simpa using this
        have xl := HRA.out.lt
        go_wp2_with fail
        refine Calls.mono (HTX.out _ (Ext.trans HX.out (by repeat (first | (with_reducible exact Ext.refl _) | (with_reducible refine Ext.undrew ?_) | (with_reducible refine Ext.grow ?_ _) | (with_reducible refine Ext.drew ?_) | (with_reducible refine Ext.drewN ?_ _) | (with_reducible refine Ext.alloc ?_ _) | (with_reducible assumption) | ((with_reducible refine Ext.setCell ?_ ?_ _); rotate_left; (first | exact Nat.le_refl _ | ((try dsimp only); (try simp only [World.size_alloc, grow_size, World.size_setCell]); omega))))))) ?_
        rintro e W2 ⟨rfl, hy⟩
        replace HX := hid (Ext.trans (Ext.trans HX.out (by repeat (first | (with_reducible exact Ext.refl _) | (with_reducible refine Ext.undrew ?_) | (with_reducible refine Ext.grow ?_ _) | (with_reducible refine Ext.drew ?_) | (with_reducible refine Ext.drewN ?_ _) | (with_reducible refine Ext.alloc ?_ _) | (with_reducible assumption) | ((with_reducible refine Ext.setCell ?_ ?_ _); rotate_left; (first | exact Nat.le_refl _ | ((try dsimp only); (try simp only [World.size_alloc, grow_size, World.size_setCell]); omega)))))) hy)
        replace HRA := hid ((HRA.out.ext (by repeat (first | (with_reducible exact Ext.refl _) | (with_reducible refine Ext.undrew ?_) | (with_reducible refine Ext.grow ?_ _) | (with_reducible refine Ext.drew ?_) | (with_reducible refine Ext.drewN ?_ _) | (with_reducible refine Ext.alloc ?_ _) | (with_reducible assumption) | ((with_reducible refine Ext.setCell ?_ ?_ _); rotate_left; (first | exact Nat.le_refl _ | ((try dsimp only); (try simp only [World.size_alloc, grow_size, World.size_setCell]); omega)))))).ext hy)
        clear x0 x1 x2 x3 xl
        clear hy
        have x0 : World.cell? W2 ⟨bx, 0, none⟩ = some (.int .i64 op0) := by have := HRA.out.at_ 0 _ rfl; simpa using this
        have x1 : World.cell? W2 ⟨bx, 1, none⟩ = some (.int .i64 ra0) := by have := HRA.out.at_ 1 _ rfl; simpa using this
        have x2 : World.cell? W2 ⟨bx, 2, none⟩ = some (.int .i64 rb0) := by have := HRA.out.at_ 2 _ rfl; simpa using this
        have x3 : World.cell? W2 ⟨bx, 3, none⟩ = some (.int .i64 rc0) := by have := HRA.out.at_ 3 _ rfl; simpa using this
        have xl := HRA.out.lt
        go_wp2_with fail
        refine Calls.mono (HRR.out _ (Ext.trans HX.out (by repeat (first | (with_reducible exact Ext.refl _) | (with_reducible refine Ext.undrew ?_) | (with_reducible refine Ext.grow ?_ _) | (with_reducible refine Ext.drew ?_) | (with_reducible refine Ext.drewN ?_ _) | (with_reducible refine Ext.alloc ?_ _) | (with_reducible assumption) | ((with_reducible refine Ext.setCell ?_ ?_ _); rotate_left; (first | exact Nat.le_refl _ | ((try dsimp only); (try simp only [World.size_alloc, grow_size, World.size_setCell]); omega))))))) ?_
        rintro e W3 ⟨rfl, hy⟩
        replace HX := hid (Ext.trans (Ext.trans HX.out (by repeat (first | (with_reducible exact Ext.refl _) | (with_reducible refine Ext.undrew ?_) | (with_reducible refine Ext.grow ?_ _) | (with_reducible refine Ext.drew ?_) | (with_reducible refine Ext.drewN ?_ _) | (with_reducible refine Ext.alloc ?_ _) | (with_reducible assumption) | ((with_reducible refine Ext.setCell ?_ ?_ _); rotate_left; (first | exact Nat.le_refl _ | ((try dsimp only); (try simp only [World.size_alloc, grow_size, World.size_setCell]); omega)))))) hy)
        replace HRA := hid ((HRA.out.ext (by repeat (first | (with_reducible exact Ext.refl _) | (with_reducible refine Ext.undrew ?_) | (with_reducible refine Ext.grow ?_ _) | (with_reducible refine Ext.drew ?_) | (with_reducible refine Ext.drewN ?_ _) | (with_reducible refine Ext.alloc ?_ _) | (with_reducible assumption) | ((with_reducible refine Ext.setCell ?_ ?_ _); rotate_left; (first | exact Nat.le_refl _ | ((try dsimp only); (try simp only [World.size_alloc, grow_size, World.size_setCell]); omega)))))).ext hy)
        clear x0 x1 x2 x3 xl
        clear hy
        have x0 : World.cell? W3 ⟨bx, 0, none⟩ = some (.int .i64 op0) := by have := HRA.out.at_ 0 _ rfl; simpa using this
        have x1 : World.cell? W3 ⟨bx, 1, none⟩ = some (.int .i64 ra0) := by have := HRA.out.at_ 1 _ rfl; simpa using this
        have x2 : World.cell? W3 ⟨bx, 2, none⟩ = some (.int .i64 rb0) := by have := HRA.out.at_ 2 _ rfl; simpa using this
        have x3 : World.cell? W3 ⟨bx, 3, none⟩ = some (.int .i64 rc0) := by have := HRA.out.at_ 3 _ rfl; simpa using this
        have xl := HRA.out.lt
        go_wp2_with fail
        refine Calls.mono (HPX.out _ (Ext.trans HX.out (by repeat (first | (with_reducible exact Ext.refl _) | (with_reducible refine Ext.undrew ?_) | (with_reducible refine Ext.grow ?_ _) | (with_reducible refine Ext.drew ?_) | (with_reducible refine Ext.drewN ?_ _) | (with_reducible refine Ext.alloc ?_ _) | (with_reducible assumption) | ((with_reducible refine Ext.setCell ?_ ?_ _); rotate_left; (first | exact Nat.le_refl _ | ((try dsimp only); (try simp only [World.size_alloc, grow_size, World.size_setCell]); omega))))))) ?_
        rintro e W4 ⟨rfl, hy⟩
        replace HX := hid (Ext.trans (Ext.trans HX.out (by repeat (first | (with_reducible exact Ext.refl _) | (with_reducible refine Ext.undrew ?_) | (with_reducible refine Ext.grow ?_ _) | (with_reducible refine Ext.drew ?_) | (with_reducible refine Ext.drewN ?_ _) | (with_reducible refine Ext.alloc ?_ _) | (with_reducible assumption) | ((with_reducible refine Ext.setCell ?_ ?_ _); rotate_left; (first | exact Nat.le_refl _ | ((try dsimp only); (try simp only [World.size_alloc, grow_size, World.size_setCell]); omega)))))) hy)
        replace HRA := hid ((HRA.out.ext (by repeat (first | (with_reducible exact Ext.refl _) | (with_reducible refine Ext.undrew ?_) | (with_reducible refine Ext.grow ?_ _) | (with_reducible refine Ext.drew ?_) | (with_reducible refine Ext.drewN ?_ _) | (with_reducible refine Ext.alloc ?_ _) | (with_reducible assumption) | ((with_reducible refine Ext.setCell ?_ ?_ _); rotate_left; (first | exact Nat.le_refl _ | ((try dsimp only); (try simp only [World.size_alloc, grow_size, World.size_setCell]); omega)))))).ext hy)
        clear x0 x1 x2 x3 xl
        clear hy
        have x0 : World.cell? W4 ⟨bx, 0, none⟩ = some (.int .i64 op0) := by have := HRA.out.at_ 0 _ rfl; simpa using this
        have x1 : World.cell? W4 ⟨bx, 1, none⟩ = some (.int .i64 ra0) := by have := HRA.out.at_ 1 _ rfl; simpa using this
        have x2 : World.cell? W4 ⟨bx, 2, none⟩ = some (.int .i64 rb0) := by have := HRA.out.at_ 2 _ rfl; simpa using this
        have x3 : World.cell? W4 ⟨bx, 3, none⟩ = some (.int .i64 rc0) := by have := HRA.out.at_ 3 _ rfl; simpa using this
        have xl := HRA.out.lt
        go_wp2_with fail
        refine Calls.mono (HPS.out _ (Ext.trans HX.out (by repeat (first | (with_reducible exact Ext.refl _) | (with_reducible refine Ext.undrew ?_) | (with_reducible refine Ext.grow ?_ _) | (with_reducible refine Ext.drew ?_) | (with_reducible refine Ext.drewN ?_ _) | (with_reducible refine Ext.alloc ?_ _) | (with_reducible assumption) | ((with_reducible refine Ext.setCell ?_ ?_ _); rotate_left; (first | exact Nat.le_refl _ | ((try dsimp only); (try simp only [World.size_alloc, grow_size, World.size_setCell]); omega))))))) ?_
        rintro e W5 ⟨rfl, hy⟩
        replace HX := hid (Ext.trans (Ext.trans HX.out (by repeat (first | (with_reducible exact Ext.refl _) | (with_reducible refine Ext.undrew ?_) | (with_reducible refine Ext.grow ?_ _) | (with_reducible refine Ext.drew ?_) | (with_reducible refine Ext.drewN ?_ _) | (with_reducible refine Ext.alloc ?_ _) | (with_reducible assumption) | ((with_reducible refine Ext.setCell ?_ ?_ _); rotate_left; (first | exact Nat.le_refl _ | ((try dsimp only); (try simp only [World.size_alloc, grow_size, World.size_setCell]); omega)))))) hy)
        replace HRA := hid ((HRA.out.ext (by repeat (first | (with_reducible exact Ext.refl _) | (with_reducible refine Ext.undrew ?_) | (with_reducible refine Ext.grow ?_ _) | (with_reducible refine Ext.drew ?_) | (with_reducible refine Ext.drewN ?_ _) | (with_reducible refine Ext.alloc ?_ _) | (with_reducible assumption) | ((with_reducible refine Ext.setCell ?_ ?_ _); rotate_left; (first | exact Nat.le_refl _ | ((try dsimp only); (try simp only [World.size_alloc, grow_size, World.size_setCell]); omega)))))).ext hy)
        clear x0 x1 x2 x3 xl
        clear hy
        go_wp2_with fail
        refine Calls.mono (HTZ.out _ (Ext.trans HX.out (by repeat (first | (with_reducible exact Ext.refl _) | (with_reducible refine Ext.undrew ?_) | (with_reducible refine Ext.grow ?_ _) | (with_reducible refine Ext.drew ?_) | (with_reducible refine Ext.drewN ?_ _) | (with_reducible refine Ext.alloc ?_ _) | (with_reducible assumption) | ((with_reducible refine Ext.setCell ?_ ?_ _); rotate_left; (first | exact Nat.le_refl _ | ((try dsimp only); (try simp only [World.size_alloc, grow_size, World.size_setCell]); omega))))))) ?_
        rintro e W6 ⟨rfl, hy⟩
        replace HX := hid (Ext.trans (Ext.trans HX.out (by repeat (first | (with_reducible exact Ext.refl _) | (with_reducible refine Ext.undrew ?_) | (with_reducible refine Ext.grow ?_ _) | (with_reducible refine Ext.drew ?_) | (with_reducible refine Ext.drewN ?_ _) | (with_reducible refine Ext.alloc ?_ _) | (with_reducible assumption) | ((with_reducible refine Ext.setCell ?_ ?_ _); rotate_left; (first | exact Nat.le_refl _ | ((try dsimp only); (try simp only [World.size_alloc, grow_size, World.size_setCell]); omega)))))) hy)
        clear hy
        go_wp2_with fail
        go_ret
        exact ⟨rfl, Ext.trans HX.out (by repeat (first | (with_reducible exact Ext.refl _) | (with_reducible refine Ext.undrew ?_) | (with_reducible refine Ext.grow ?_ _) | (with_reducible refine Ext.drew ?_) | (with_reducible refine Ext.drewN ?_ _) | (with_reducible refine Ext.alloc ?_ _) | (with_reducible assumption) | ((with_reducible refine Ext.setCell ?_ ?_ _); rotate_left; (first | exact Nat.le_refl _ | ((try dsimp only); (try simp only [World.size_alloc, grow_size, World.size_setCell]); omega)))))⟩
      · skip
        have HPS : Hid (∀ W, Ext w W → Calls Tryd.prog 10 #[.string a1] W fun e w' => e = .returned (.tuple #[.agg #[.int .i64 0, .int .i64 0, .int .i64 0, .int .i64 0], .bool false]) ∧ Ext W w') := hid (fun W hx => by have h := parse_ a1 W (HT.out.ext hx) (by omega); rw [show parseN valT a1.data.toList = _ from hzp] at h; exact h)
        clear hzp
        go_enter Tryd.func5, Tryd.ntmps5
        go_upto_region 1 with (fail)
        refine wp_gen (fun V => Hid (Ext w V) ∧ Hid (Row V w.heap.size 0 [.int .i64 op0, .int .i64 ra0, .int .i64 rb0, .int .i64 rc0])) ⟨hid (by repeat (first | (with_reducible exact Ext.refl _) | (with_reducible refine Ext.undrew ?_) | (with_reducible refine Ext.grow ?_ _) | (with_reducible refine Ext.drew ?_) | (with_reducible refine Ext.drewN ?_ _) | (with_reducible refine Ext.alloc ?_ _) | (with_reducible assumption) | ((with_reducible refine Ext.setCell ?_ ?_ _); rotate_left; (first | exact Nat.le_refl _ | ((try dsimp only); (try simp only [World.size_alloc, grow_size, World.size_setCell]); omega))))), hid (Row.new w _ _)⟩ ?_
        rintro W0 ⟨HX, HRA⟩
        generalize w.heap.size = bx at HRA ⊢
        have x0 : World.cell? W0 ⟨bx, 0, none⟩ = some (.int .i64 op0) := by have := HRA.out.at_ 0 _ rfl; simpa using this
        have x1 : World.cell? W0 ⟨bx, 1, none⟩ = some (.int .i64 ra0) := by have := HRA.out.at_ 1 _ rfl; simpa using this
        have x2 : World.cell? W0 ⟨bx, 2, none⟩ = some (.int .i64 rb0) := by have := HRA.out.at_ 2 _ rfl; simpa using this
        have x3 : World.cell? W0 ⟨bx, 3, none⟩ = some (.int .i64 rc0) := by have := HRA.out.at_ 3 _ rfl; simpa using this
        have xl := HRA.out.lt
        go_wp2_with fail
        refine Calls.mono (HHD.out _ (Ext.trans HX.out (by repeat (first | (with_reducible exact Ext.refl _) | (with_reducible refine Ext.undrew ?_) | (with_reducible refine Ext.grow ?_ _) | (with_reducible refine Ext.drew ?_) | (with_reducible refine Ext.drewN ?_ _) | (with_reducible refine Ext.alloc ?_ _) | (with_reducible assumption) | ((with_reducible refine Ext.setCell ?_ ?_ _); rotate_left; (first | exact Nat.le_refl _ | ((try dsimp only); (try simp only [World.size_alloc, grow_size, World.size_setCell]); omega))))))) ?_
        rintro e W1 ⟨rfl, hy⟩
        replace HX := hid (Ext.trans (Ext.trans HX.out (by repeat (first | (with_reducible exact Ext.refl _) | (with_reducible refine Ext.undrew ?_) | (with_reducible refine Ext.grow ?_ _) | (with_reducible refine Ext.drew ?_) | (with_reducible refine Ext.drewN ?_ _) | (with_reducible refine Ext.alloc ?_ _) | (with_reducible assumption) | ((with_reducible refine Ext.setCell ?_ ?_ _); rotate_left; (first | exact Nat.le_refl _ | ((try dsimp only); (try simp only [World.size_alloc, grow_size, World.size_setCell]); omega)))))) hy)
        replace HRA := hid ((HRA.out.ext (by repeat (first | (with_reducible exact Ext.refl _) | (with_reducible refine Ext.undrew ?_) | (with_reducible refine Ext.grow ?_ _) | (with_reducible refine Ext.drew ?_) | (with_reducible refine Ext.drewN ?_ _) | (with_reducible refine Ext.alloc ?_ _) | (with_reducible assumption) | ((with_reducible refine Ext.setCell ?_ ?_ _); rotate_left; (first | exact Nat.le_refl _ | ((try dsimp only); (try simp only [World.size_alloc, grow_size, World.size_setCell]); omega)))))).ext hy)
        clear x0 x1 x2 x3 xl
        clear hy
        have x0 : World.cell? W1 ⟨bx, 0, none⟩ = some (.int .i64 op0) := by have := HRA.out.at_ 0 _ rfl; simpa using this
        have x1 : World.cell? W1 ⟨bx, 1, none⟩ = some (.int .i64 ra0) := by have := HRA.out.at_ 1 _ rfl; simpa using this
        have x2 : World.cell? W1 ⟨bx, 2, none⟩ = some (.int .i64 rb0) := by have := HRA.out.at_ 2 _ rfl; simpa using this
        have x3 : World.cell? W1 ⟨bx, 3, none⟩ = some (.int .i64 rc0) := by have := HRA.out.at_ 3 _ rfl; simpa using this
        have xl := HRA.out.lt
        go_wp2_with fail
        refine Calls.mono (HTX.out _ (Ext.trans HX.out (by repeat (first | (with_reducible exact Ext.refl _) | (with_reducible refine Ext.undrew ?_) | (with_reducible refine Ext.grow ?_ _) | (with_reducible refine Ext.drew ?_) | (with_reducible refine Ext.drewN ?_ _) | (with_reducible refine Ext.alloc ?_ _) | (with_reducible assumption) | ((with_reducible refine Ext.setCell ?_ ?_ _); rotate_left; (first | exact Nat.le_refl _ | ((try dsimp only); (try simp only [World.size_alloc, grow_size, World.size_setCell]); omega))))))) ?_
        rintro e W2 ⟨rfl, hy⟩
        replace HX := hid (Ext.trans (Ext.trans HX.out (by repeat (first | (with_reducible exact Ext.refl _) | (with_reducible refine Ext.undrew ?_) | (with_reducible refine Ext.grow ?_ _) | (with_reducible refine Ext.drew ?_) | (with_reducible refine Ext.drewN ?_ _) | (with_reducible refine Ext.alloc ?_ _) | (with_reducible assumption) | ((with_reducible refine Ext.setCell ?_ ?_ _); rotate_left; (first | exact Nat.le_refl _ | ((try dsimp only); (try simp only [World.size_alloc, grow_size, World.size_setCell]); omega)))))) hy)
        replace HRA := hid ((HRA.out.ext (by repeat (first | (with_reducible exact Ext.refl _) | (with_reducible refine Ext.undrew ?_) | (with_reducible refine Ext.grow ?_ _) | (with_reducible refine Ext.drew ?_) | (with_reducible refine Ext.drewN ?_ _) | (with_reducible refine Ext.alloc ?_ _) | (with_reducible assumption) | ((with_reducible refine Ext.setCell ?_ ?_ _); rotate_left; (first | exact Nat.le_refl _ | ((try dsimp only); (try simp only [World.size_alloc, grow_size, World.size_setCell]); omega)))))).ext hy)
        clear x0 x1 x2 x3 xl
        clear hy
        have x0 : World.cell? W2 ⟨bx, 0, none⟩ = some (.int .i64 op0) := by have := HRA.out.at_ 0 _ rfl; simpa using this
        have x1 : World.cell? W2 ⟨bx, 1, none⟩ = some (.int .i64 ra0) := by have := HRA.out.at_ 1 _ rfl; simpa using this
        have x2 : World.cell? W2 ⟨bx, 2, none⟩ = some (.int .i64 rb0) := by have := HRA.out.at_ 2 _ rfl; simpa using this
        have x3 : World.cell? W2 ⟨bx, 3, none⟩ = some (.int .i64 rc0) := by have := HRA.out.at_ 3 _ rfl; simpa using this
        have xl := HRA.out.lt
        go_wp2_with fail
        refine Calls.mono (HRR.out _ (Ext.trans HX.out (by repeat (first | (with_reducible exact Ext.refl _) | (with_reducible refine Ext.undrew ?_) | (with_reducible refine Ext.grow ?_ _) | (with_reducible refine Ext.drew ?_) | (with_reducible refine Ext.drewN ?_ _) | (with_reducible refine Ext.alloc ?_ _) | (with_reducible assumption) | ((with_reducible refine Ext.setCell ?_ ?_ _); rotate_left; (first | exact Nat.le_refl _ | ((try dsimp only); (try simp only [World.size_alloc, grow_size, World.size_setCell]); omega))))))) ?_
        rintro e W3 ⟨rfl, hy⟩
        replace HX := hid (Ext.trans (Ext.trans HX.out (by repeat (first | (with_reducible exact Ext.refl _) | (with_reducible refine Ext.undrew ?_) | (with_reducible refine Ext.grow ?_ _) | (with_reducible refine Ext.drew ?_) | (with_reducible refine Ext.drewN ?_ _) | (with_reducible refine Ext.alloc ?_ _) | (with_reducible assumption) | ((with_reducible refine Ext.setCell ?_ ?_ _); rotate_left; (first | exact Nat.le_refl _ | ((try dsimp only); (try simp only [World.size_alloc, grow_size, World.size_setCell]); omega)))))) hy)
        replace HRA := hid ((HRA.out.ext (by repeat (first | (with_reducible exact Ext.refl _) | (with_reducible refine Ext.undrew ?_) | (with_reducible refine Ext.grow ?_ _) | (with_reducible refine Ext.drew ?_) | (with_reducible refine Ext.drewN ?_ _) | (with_reducible refine Ext.alloc ?_ _) | (with_reducible assumption) | ((with_reducible refine Ext.setCell ?_ ?_ _); rotate_left; (first | exact Nat.le_refl _ | ((try dsimp only); (try simp only [World.size_alloc, grow_size, World.size_setCell]); omega)))))).ext hy)
        clear x0 x1 x2 x3 xl
        clear hy
        have x0 : World.cell? W3 ⟨bx, 0, none⟩ = some (.int .i64 op0) := by have := HRA.out.at_ 0 _ rfl; simpa using this
        have x1 : World.cell? W3 ⟨bx, 1, none⟩ = some (.int .i64 ra0) := by have := HRA.out.at_ 1 _ rfl; simpa using this
        have x2 : World.cell? W3 ⟨bx, 2, none⟩ = some (.int .i64 rb0) := by have := HRA.out.at_ 2 _ rfl; simpa using this
        have x3 : World.cell? W3 ⟨bx, 3, none⟩ = some (.int .i64 rc0) := by have := HRA.out.at_ 3 _ rfl; simpa using this
        have xl := HRA.out.lt
        go_wp2_with fail
        refine Calls.mono (HPX.out _ (Ext.trans HX.out (by repeat (first | (with_reducible exact Ext.refl _) | (with_reducible refine Ext.undrew ?_) | (with_reducible refine Ext.grow ?_ _) | (with_reducible refine Ext.drew ?_) | (with_reducible refine Ext.drewN ?_ _) | (with_reducible refine Ext.alloc ?_ _) | (with_reducible assumption) | ((with_reducible refine Ext.setCell ?_ ?_ _); rotate_left; (first | exact Nat.le_refl _ | ((try dsimp only); (try simp only [World.size_alloc, grow_size, World.size_setCell]); omega))))))) ?_
        rintro e W4 ⟨rfl, hy⟩
        replace HX := hid (Ext.trans (Ext.trans HX.out (by repeat (first | (with_reducible exact Ext.refl _) | (with_reducible refine Ext.undrew ?_) | (with_reducible refine Ext.grow ?_ _) | (with_reducible refine Ext.drew ?_) | (with_reducible refine Ext.drewN ?_ _) | (with_reducible refine Ext.alloc ?_ _) | (with_reducible assumption) | ((with_reducible refine Ext.setCell ?_ ?_ _); rotate_left; (first | exact Nat.le_refl _ | ((try dsimp only); (try simp only [World.size_alloc, grow_size, World.size_setCell]); omega)))))) hy)
        replace HRA := hid ((HRA.out.ext (by repeat (first | (with_reducible exact Ext.refl _) | (with_reducible refine Ext.undrew ?_) | (with_reducible refine Ext.grow ?_ _) | (with_reducible refine Ext.drew ?_) | (with_reducible refine Ext.drewN ?_ _) | (with_reducible refine Ext.alloc ?_ _) | (with_reducible assumption) | ((with_reducible refine Ext.setCell ?_ ?_ _); rotate_left; (first | exact Nat.le_refl _ | ((try dsimp only); (try simp only [World.size_alloc, grow_size, World.size_setCell]); omega)))))).ext hy)
        clear x0 x1 x2 x3 xl
        clear hy
        have x0 : World.cell? W4 ⟨bx, 0, none⟩ = some (.int .i64 op0) := by have := HRA.out.at_ 0 _ rfl; simpa using this
        have x1 : World.cell? W4 ⟨bx, 1, none⟩ = some (.int .i64 ra0) := by have := HRA.out.at_ 1 _ rfl; simpa using this
        have x2 : World.cell? W4 ⟨bx, 2, none⟩ = some (.int .i64 rb0) := by have := HRA.out.at_ 2 _ rfl; simpa using this
        have x3 : World.cell? W4 ⟨bx, 3, none⟩ = some (.int .i64 rc0) := by have := HRA.out.at_ 3 _ rfl; simpa using this
        have xl := HRA.out.lt
        go_wp2_with fail
        refine Calls.mono (HPS.out _ (Ext.trans HX.out (by repeat (first | (with_reducible exact Ext.refl _) | (with_reducible refine Ext.undrew ?_) | (with_reducible refine Ext.grow ?_ _) | (with_reducible refine Ext.drew ?_) | (with_reducible refine Ext.drewN ?_ _) | (with_reducible refine Ext.alloc ?_ _) | (with_reducible assumption) | ((with_reducible refine Ext.setCell ?_ ?_ _); rotate_left; (first | exact Nat.le_refl _ | ((try dsimp only); (try simp only [World.size_alloc, grow_size, World.size_setCell]); omega))))))) ?_
        rintro e W5 ⟨rfl, hy⟩
        replace HX := hid (Ext.trans (Ext.trans HX.out (by repeat (first | (with_reducible exact Ext.refl _) | (with_reducible refine Ext.undrew ?_) | (with_reducible refine Ext.grow ?_ _) | (with_reducible refine Ext.drew ?_) | (with_reducible refine Ext.drewN ?_ _) | (with_reducible refine Ext.alloc ?_ _) | (with_reducible assumption) | ((with_reducible refine Ext.setCell ?_ ?_ _); rotate_left; (first | exact Nat.le_refl _ | ((try dsimp only); (try simp only [World.size_alloc, grow_size, World.size_setCell]); omega)))))) hy)
        replace HRA := hid ((HRA.out.ext (by repeat (first | (with_reducible exact Ext.refl _) | (with_reducible refine Ext.undrew ?_) | (with_reducible refine Ext.grow ?_ _) | (with_reducible refine Ext.drew ?_) | (with_reducible refine Ext.drewN ?_ _) | (with_reducible refine Ext.alloc ?_ _) | (with_reducible assumption) | ((with_reducible refine Ext.setCell ?_ ?_ _); rotate_left; (first | exact Nat.le_refl _ | ((try dsimp only); (try simp only [World.size_alloc, grow_size, World.size_setCell]); omega)))))).ext hy)
        clear x0 x1 x2 x3 xl
        clear hy
        have x0 : World.cell? W5 ⟨bx, 0, none⟩ = some (.int .i64 op0) := by have := HRA.out.at_ 0 _ rfl; simpa using this
        have x1 : World.cell? W5 ⟨bx, 1, none⟩ = some (.int .i64 ra0) := by have := HRA.out.at_ 1 _ rfl; simpa using this
        have x2 : World.cell? W5 ⟨bx, 2, none⟩ = some (.int .i64 rb0) := by have := HRA.out.at_ 2 _ rfl; simpa using this
        have x3 : World.cell? W5 ⟨bx, 3, none⟩ = some (.int .i64 rc0) := by have := HRA.out.at_ 3 _ rfl; simpa using this
        have xl := HRA.out.lt
        go_wp2_with fail
        go_ret
        exact ⟨rfl, Ext.trans HX.out (by repeat (first | (with_reducible exact Ext.refl _) | (with_reducible refine Ext.undrew ?_) | (with_reducible refine Ext.grow ?_ _) | (with_reducible refine Ext.drew ?_) | (with_reducible refine Ext.drewN ?_ _) | (with_reducible refine Ext.alloc ?_ _) | (with_reducible assumption) | ((with_reducible refine Ext.setCell ?_ ?_ _); rotate_left; (first | exact Nat.le_refl _ | ((try dsimp only); (try simp only [World.size_alloc, grow_size, World.size_setCell]); omega)))))⟩
    · have hl1 : (900 : Int) < (a1.size : Int) := by omega
      go_enter Tryd.func5, Tryd.ntmps5
      go_upto_region 1 with (fail)
      refine wp_gen (fun V => Hid (Ext w V) ∧ Hid (Row V w.heap.size 0 [.int .i64 op0, .int .i64 ra0, .int .i64 rb0, .int .i64 rc0])) ⟨hid (by repeat (first | (with_reducible exact Ext.refl _) | (with_reducible refine Ext.undrew ?_) | (with_reducible refine Ext.grow ?_ _) | (with_reducible refine Ext.drew ?_) | (with_reducible refine Ext.drewN ?_ _) | (with_reducible refine Ext.alloc ?_ _) | (with_reducible assumption) | ((with_reducible refine Ext.setCell ?_ ?_ _); rotate_left; (first | exact Nat.le_refl _ | ((try dsimp only); (try simp only [World.size_alloc, grow_size, World.size_setCell]); omega))))), hid (Row.new w _ _)⟩ ?_
      rintro W0 ⟨HX, HRA⟩
      generalize w.heap.size = bx at HRA ⊢
      have x0 : World.cell? W0 ⟨bx, 0, none⟩ = some (.int .i64 op0) := by have := HRA.out.at_ 0 _ rfl; simpa using this
      have x1 : World.cell? W0 ⟨bx, 1, none⟩ = some (.int .i64 ra0) := by have := HRA.out.at_ 1 _ rfl; simpa using this
      have x2 : World.cell? W0 ⟨bx, 2, none⟩ = some (.int .i64 rb0) := by have := HRA.out.at_ 2 _ rfl; simpa using this
      have x3 : World.cell? W0 ⟨bx, 3, none⟩ = some (.int .i64 rc0) := by have := HRA.out.at_ 3 _ rfl; simpa using this
      have xl := HRA.out.lt
      go_wp2_with fail
      refine Calls.mono (HHD.out _ (Ext.trans HX.out (by repeat (first | (with_reducible exact Ext.refl _) | (with_reducible refine Ext.undrew ?_) | (with_reducible refine Ext.grow ?_ _) | (with_reducible refine Ext.drew ?_) | (with_reducible refine Ext.drewN ?_ _) | (with_reducible refine Ext.alloc ?_ _) | (with_reducible assumption) | ((with_reducible refine Ext.setCell ?_ ?_ _); rotate_left; (first | exact Nat.le_refl _ | ((try dsimp only); (try simp only [World.size_alloc, grow_size, World.size_setCell]); omega))))))) ?_
      rintro e W1 ⟨rfl, hy⟩
      replace HX := hid (Ext.trans (Ext.trans HX.out (by repeat (first | (with_reducible exact Ext.refl _) | (with_reducible refine Ext.undrew ?_) | (with_reducible refine Ext.grow ?_ _) | (with_reducible refine Ext.drew ?_) | (with_reducible refine Ext.drewN ?_ _) | (with_reducible refine Ext.alloc ?_ _) | (with_reducible assumption) | ((with_reducible refine Ext.setCell ?_ ?_ _); rotate_left; (first | exact Nat.le_refl _ | ((try dsimp only); (try simp only [World.size_alloc, grow_size, World.size_setCell]); omega)))))) hy)
      replace HRA := hid ((HRA.out.ext (by repeat (first | (with_reducible exact Ext.refl _) | (with_reducible refine Ext.undrew ?_) | (with_reducible refine Ext.grow ?_ _) | (with_reducible refine Ext.drew ?_) | (with_reducible refine Ext.drewN ?_ _) | (with_reducible refine Ext.alloc ?_ _) | (with_reducible assumption) | ((with_reducible refine Ext.setCell ?_ ?_ _); rotate_left; (first | exact Nat.le_refl _ | ((try dsimp only); (try simp only [World.size_alloc, grow_size, World.size_setCell]); omega)))))).ext hy)
      clear x0 x1 x2 x3 xl
      clear hy
      have x0 : World.cell? W1 ⟨bx, 0, none⟩ = some (.int .i64 op0) := by have := HRA.out.at_ 0 _ rfl; simpa using this
      have x1 : World.cell? W1 ⟨bx, 1, none⟩ = some (.int .i64 ra0) := by have := HRA.out.at_ 1 _ rfl; simpa using this
      have x2 : World.cell? W1 ⟨bx, 2, none⟩ = some (.int .i64 rb0) := by have := HRA.out.at_ 2 _ rfl; simpa using this
      have x3 : World.cell? W1 ⟨bx, 3, none⟩ = some (.int .i64 rc0) := by have := HRA.out.at_ 3 _ rfl; simpa using this
      have xl := HRA.out.lt
      go_wp2_with fail
      refine Calls.mono (HTX.out _ (Ext.trans HX.out (by repeat (first | (with_reducible exact Ext.refl _) | (with_reducible refine Ext.undrew ?_) | (with_reducible refine Ext.grow ?_ _) | (with_reducible refine Ext.drew ?_) | (with_reducible refine Ext.drewN ?_ _) | (with_reducible refine Ext.alloc ?_ _) | (with_reducible assumption) | ((with_reducible refine Ext.setCell ?_ ?_ _); rotate_left; (first | exact Nat.le_refl _ | ((try dsimp only); (try simp only [World.size_alloc, grow_size, World.size_setCell]); omega))))))) ?_
      rintro e W2 ⟨rfl, hy⟩
      replace HX := hid (Ext.trans (Ext.trans HX.out (by repeat (first | (with_reducible exact Ext.refl _) | (with_reducible refine Ext.undrew ?_) | (with_reducible refine Ext.grow ?_ _) | (with_reducible refine Ext.drew ?_) | (with_reducible refine Ext.drewN ?_ _) | (with_reducible refine Ext.alloc ?_ _) | (with_reducible assumption) | ((with_reducible refine Ext.setCell ?_ ?_ _); rotate_left; (first | exact Nat.le_refl _ | ((try dsimp only); (try simp only [World.size_alloc, grow_size, World.size_setCell]); omega)))))) hy)
      replace HRA := hid ((HRA.out.ext (by repeat (first | (with_reducible exact Ext.refl _) | (with_reducible refine Ext.undrew ?_) | (with_reducible refine Ext.grow ?_ _) | (with_reducible refine Ext.drew ?_) | (with_reducible refine Ext.drewN ?_ _) | (with_reducible refine Ext.alloc ?_ _) | (with_reducible assumption) | ((with_reducible refine Ext.setCell ?_ ?_ _); rotate_left; (first | exact Nat.le_refl _ | ((try dsimp only); (try simp only [World.size_alloc, grow_size, World.size_setCell]); omega)))))).ext hy)
      clear x0 x1 x2 x3 xl
      clear hy
      have x0 : World.cell? W2 ⟨bx, 0, none⟩ = some (.int .i64 op0) := by have := HRA.out.at_ 0 _ rfl; simpa using this
      have x1 : World.cell? W2 ⟨bx, 1, none⟩ = some (.int .i64 ra0) := by have := HRA.out.at_ 1 _ rfl; simpa using this
      have x2 : World.cell? W2 ⟨bx, 2, none⟩ = some (.int .i64 rb0) := by have := HRA.out.at_ 2 _ rfl; simpa using this
      have x3 : World.cell? W2 ⟨bx, 3, none⟩ = some (.int .i64 rc0) := by have := HRA.out.at_ 3 _ rfl; simpa using this
      have xl := HRA.out.lt
      go_wp2_with fail
      refine Calls.mono (HRR.out _ (Ext.trans HX.out (by repeat (first | (with_reducible exact Ext.refl _) | (with_reducible refine Ext.undrew ?_) | (with_reducible refine Ext.grow ?_ _) | (with_reducible refine Ext.drew ?_) | (with_reducible refine Ext.drewN ?_ _) | (with_reducible refine Ext.alloc ?_ _) | (with_reducible assumption) | ((with_reducible refine Ext.setCell ?_ ?_ _); rotate_left; (first | exact Nat.le_refl _ | ((try dsimp only); (try simp only [World.size_alloc, grow_size, World.size_setCell]); omega))))))) ?_
      rintro e W3 ⟨rfl, hy⟩
      replace HX := hid (Ext.trans (Ext.trans HX.out (by repeat (first | (with_reducible exact Ext.refl _) | (with_reducible refine Ext.undrew ?_) | (with_reducible refine Ext.grow ?_ _) | (with_reducible refine Ext.drew ?_) | (with_reducible refine Ext.drewN ?_ _) | (with_reducible refine Ext.alloc ?_ _) | (with_reducible assumption) | ((with_reducible refine Ext.setCell ?_ ?_ _); rotate_left; (first | exact Nat.le_refl _ | ((try dsimp only); (try simp only [World.size_alloc, grow_size, World.size_setCell]); omega)))))) hy)
      replace HRA := hid ((HRA.out.ext (by repeat (first | (with_reducible exact Ext.refl _) | (with_reducible refine Ext.undrew ?_) | (with_reducible refine Ext.grow ?_ _) | (with_reducible refine Ext.drew ?_) | (with_reducible refine Ext.drewN ?_ _) | (with_reducible refine Ext.alloc ?_ _) | (with_reducible assumption) | ((with_reducible refine Ext.setCell ?_ ?_ _); rotate_left; (first | exact Nat.le_refl _ | ((try dsimp only); (try simp only [World.size_alloc, grow_size, World.size_setCell]); omega)))))).ext hy)
      clear x0 x1 x2 x3 xl
      clear hy
      have x0 : World.cell? W3 ⟨bx, 0, none⟩ = some (.int .i64 op0) := by have := HRA.out.at_ 0 _ rfl; simpa using this
      have x1 : World.cell? W3 ⟨bx, 1, none⟩ = some (.int .i64 ra0) := by have := HRA.out.at_ 1 _ rfl; simpa using this
      have x2 : World.cell? W3 ⟨bx, 2, none⟩ = some (.int .i64 rb0) := by have := HRA.out.at_ 2 _ rfl; simpa using this
      have x3 : World.cell? W3 ⟨bx, 3, none⟩ = some (.int .i64 rc0) := by have := HRA.out.at_ 3 _ rfl; simpa using this
      have xl := HRA.out.lt
      go_wp2_with fail
      refine Calls.mono (HPX.out _ (Ext.trans HX.out (by repeat (first | (with_reducible exact Ext.refl _) | (with_reducible refine Ext.undrew ?_) | (with_reducible refine Ext.grow ?_ _) | (with_reducible refine Ext.drew ?_) | (with_reducible refine Ext.drewN ?_ _) | (with_reducible refine Ext.alloc ?_ _) | (with_reducible assumption) | ((with_reducible refine Ext.setCell ?_ ?_ _); rotate_left; (first | exact Nat.le_refl _ | ((try dsimp only); (try simp only [World.size_alloc, grow_size, World.size_setCell]); omega))))))) ?_
      rintro e W4 ⟨rfl, hy⟩
      replace HX := hid (Ext.trans (Ext.trans HX.out (by repeat (first | (with_reducible exact Ext.refl _) | (with_reducible refine Ext.undrew ?_) | (with_reducible refine Ext.grow ?_ _) | (with_reducible refine Ext.drew ?_) | (with_reducible refine Ext.drewN ?_ _) | (with_reducible refine Ext.alloc ?_ _) | (with_reducible assumption) | ((with_reducible refine Ext.setCell ?_ ?_ _); rotate_left; (first | exact Nat.le_refl _ | ((try dsimp only); (try simp only [World.size_alloc, grow_size, World.size_setCell]); omega)))))) hy)
      replace HRA := hid ((HRA.out.ext (by repeat (first | (with_reducible exact Ext.refl _) | (with_reducible refine Ext.undrew ?_) | (with_reducible refine Ext.grow ?_ _) | (with_reducible refine Ext.drew ?_) | (with_reducible refine Ext.drewN ?_ _) | (with_reducible refine Ext.alloc ?_ _) | (with_reducible assumption) | ((with_reducible refine Ext.setCell ?_ ?_ _); rotate_left; (first | exact Nat.le_refl _ | ((try dsimp only); (try simp only [World.size_alloc, grow_size, World.size_setCell]); omega)))))).ext hy)
      clear x0 x1 x2 x3 xl
      clear hy
      have x0 : World.cell? W4 ⟨bx, 0, none⟩ = some (.int .i64 op0) := by have := HRA.out.at_ 0 _ rfl; simpa using this
      have x1 : World.cell? W4 ⟨bx, 1, none⟩ = some (.int .i64 ra0) := by have := HRA.out.at_ 1 _ rfl; simpa using this
      have x2 : World.cell? W4 ⟨bx, 2, none⟩ = some (.int .i64 rb0) := by have := HRA.out.at_ 2 _ rfl; simpa using this
      have x3 : World.cell? W4 ⟨bx, 3, none⟩ = some (.int .i64 rc0) := by have := HRA.out.at_ 3 _ rfl; simpa using this
      have xl := HRA.out.lt
      go_wp2_with fail
      go_ret
      exact ⟨rfl, Ext.trans HX.out (by repeat (first | (with_reducible exact Ext.refl _) | (with_reducible refine Ext.undrew ?_) | (with_reducible refine Ext.grow ?_ _) | (with_reducible refine Ext.drew ?_) | (with_reducible refine Ext.drewN ?_ _) | (with_reducible refine Ext.alloc ?_ _) | (with_reducible assumption) | ((with_reducible refine Ext.setCell ?_ ?_ _); rotate_left; (first | exact Nat.le_refl _ | ((try dsimp only); (try simp only [World.size_alloc, grow_size, World.size_setCell]); omega)))))⟩
end asmBack

end Go.Proofs.YtdhpbofpomefoaaDoor
