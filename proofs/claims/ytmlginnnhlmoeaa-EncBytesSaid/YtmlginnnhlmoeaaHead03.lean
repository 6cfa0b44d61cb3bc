/- Layer 3: the live question. -/
import Derived.Test.YtmlginnnhlmoeaaEncF
import Derived.Test.YtmlginnnhlmoeaaEncI
namespace Go.Proofs.Ytmlginnnhlmoeaa
set_option linter.unusedSimpArgs false
set_option linter.unusedVariables false
open Go.RowKit

theorem run_strN {P : Program} (w : World) (src dst e : TypeId) (hs : P.underlying src = some (.slice e)) (he : P.underlying e = some (.int .u8)) (hd : P.underlying dst = some .string) (A : Option Addr) (c : Nat) (ns : List Int) (n : Nat) (hn : ns.length = n)
    (h : RdB w A ns) (h0 : ns = [] → A = none) : (convert src dst (.slice A n c)).run P w = .ok (.string (strOf ns)) w := by
  subst hn
  exact run_str_any w src dst e hs he hd A c ns h h0
set_option maxRecDepth 100000 in
set_option maxHeartbeats 400000 in
theorem get_h1 (q ca : Nat) (w : World) (hr : RdB w (some ⟨q, 0, none⟩) [0, 0, 0, 20, 0, 0, 0, 16, 0, 0, 1, 16, 0, 3, 0, 5]) (hl : 16 ≤ ca) (hm : ca ≤ maxLen) :
    Calls Try.prog 9 #[.slice (some ⟨q, 0, none⟩) 16 ca, .bool true] w fun e w' => e = .returned (.tuple #[.agg #[.bool true, .int .i64 16, .int .i64 272, .int .i64 20, .int .i64 3, .int .i64 5], .bool true]) ∧ Ext w w' := by
  have G := get_yes q 0 ca 0 0 0 20 0 0 0 16 0 0 1 16 0 3 0 5 true w hr hl hm (by decide) (by decide) (by decide) (by decide) (by decide) (by decide) (by decide) (by decide) (by decide) (by decide) (by decide) (by decide) (by decide) (by decide) (by decide) (by decide) (by decide) (by decide) (by decide) (by decide) (by decide) (by decide) (by decide) (by decide) (by decide) (by decide) (by decide) (by decide) (by decide) (by decide) (by decide) (by decide)
  have e : getL [0, 0, 0, 20, 0, 0, 0, 16, 0, 0, 1, 16, 0, 3, 0, 5] true = ⟨true, 16, 272, 20, 3, 5⟩ := by rfl
  rw [e] at G
  exact G

set_option maxRecDepth 100000 in
set_option maxHeartbeats 400000 in
theorem get_h2 (q ca : Nat) (w : World) (hr : RdB w (some ⟨q, 0, none⟩) [0, 0, 0, 20, 0, 0, 0, 16, 0, 0, 1, 16, 0, 3, 0, 5]) (hl : 16 ≤ ca) (hm : ca ≤ maxLen) :
    Calls Try.prog 9 #[.slice (some ⟨q, 0, none⟩) 16 ca, .bool false] w fun e w' => e = .returned (.tuple #[.agg #[.bool false, .int .i64 16, .int .i64 272, .int .i64 20, .int .i64 3, .int .i64 5], .bool true]) ∧ Ext w w' := by
  have G := get_yes q 0 ca 0 0 0 20 0 0 0 16 0 0 1 16 0 3 0 5 false w hr hl hm (by decide) (by decide) (by decide) (by decide) (by decide) (by decide) (by decide) (by decide) (by decide) (by decide) (by decide) (by decide) (by decide) (by decide) (by decide) (by decide) (by decide) (by decide) (by decide) (by decide) (by decide) (by decide) (by decide) (by decide) (by decide) (by decide) (by decide) (by decide) (by decide) (by decide) (by decide) (by decide)
  have e : getL [0, 0, 0, 20, 0, 0, 0, 16, 0, 0, 1, 16, 0, 3, 0, 5] false = ⟨false, 16, 272, 20, 3, 5⟩ := by rfl
  rw [e] at G
  exact G


set_option maxRecDepth 100000 in
set_option maxHeartbeats 4000000 in
theorem head (w : World) : Calls Try.prog 8 #[] w fun e w' => e = .returned (.bool true) ∧ Ext w w' := by
  have r1 : rightC ⟨true, 16, 272, 20, 3, 5⟩ = true := by decide
  have r2 : rightC ⟨false, 16, 272, 20, 3, 5⟩ = true := by decide
  have r3 : rightC ⟨false, 0, 0, -1, 0, 0⟩ = false := by decide
  have eB : bytesC ⟨true, 16, 272, 20, 3, 5⟩ = [0, 0, 0, 20, 0, 0, 0, 16, 0, 0, 1, 16, 0, 3, 0, 5] := by decide
  have EB := hid eB
  have G1 := hid (show getL [0, 0, 0, 20, 0, 0, 0, 16, 0, 0, 1, 16, 0, 3, 0, 5] true = ⟨true, 16, 272, 20, 3, 5⟩ from by rfl)
  have G2 := hid (show getL [0, 0, 0, 20, 0, 0, 0, 16, 0, 0, 1, 16, 0, 3, 0, 5] false = ⟨false, 16, 272, 20, 3, 5⟩ from by rfl)
  have eS : decide (bytesC ⟨true, 16, 272, 20, 3, 5⟩ = bytesC ⟨false, 16, 272, 20, 3, 5⟩) = true := by decide
  have ES := hid eS
  have eT : strOf [0, 0, 0, 20, 0, 0, 0, 16, 0, 0, 1, 16, 0, 3, 0, 5] = ⟨#[0, 0, 0, 20, 0, 0, 0, 16, 0, 0, 1, 16, 0, 3, 0, 5]⟩ := by rfl
  have ET := hid eT
  have R1 := hid r1
  have R2 := hid r2
  have R3 := hid r3
  clear r1 r2 r3 eB eS eT
  go_enter Try.func8, Try.ntmps8
  go_wp2_with fail
  refine Calls.mono (put_yes true 16 272 20 3 5 _ R1.out) ?_
  rintro e w1 ⟨q, ca, rfl, hl, hm, hq, hr, hy⟩
  rw [EB.out] at hr
  have hr0 := hr.lt (by simp)
  obtain ⟨d, rfl⟩ := hy.grown
  clear hy
  have HR := hid hr
  clear hr
  go_wp2_with fail
  refine Calls.mono (get_h1 q ca _ (HR.out.ext (by repeat (first | (with_reducible exact Ext.refl _) | (with_reducible refine Ext.undrew ?_) | (with_reducible refine Ext.grow ?_ _) | (with_reducible refine Ext.drew ?_) | (with_reducible refine Ext.drewN ?_ _) | (with_reducible refine Ext.alloc ?_ _) | (with_reducible assumption) | ((with_reducible refine Ext.setCell ?_ ?_ _); rotate_left; (first | exact Nat.le_refl _ | ((try dsimp only); (try simp only [World.size_alloc, grow_size, World.size_setCell]); omega)))))) hl hm) ?_
  rintro e w' ⟨rfl, hy⟩; obtain ⟨d, rfl⟩ := hy.grown; clear hy
  go_wp2_with fail
  refine Calls.mono (get_h2 q ca _ (HR.out.ext (by repeat (first | (with_reducible exact Ext.refl _) | (with_reducible refine Ext.undrew ?_) | (with_reducible refine Ext.grow ?_ _) | (with_reducible refine Ext.drew ?_) | (with_reducible refine Ext.drewN ?_ _) | (with_reducible refine Ext.alloc ?_ _) | (with_reducible assumption) | ((with_reducible refine Ext.setCell ?_ ?_ _); rotate_left; (first | exact Nat.le_refl _ | ((try dsimp only); (try simp only [World.size_alloc, grow_size, World.size_setCell]); omega)))))) hl hm) ?_
  rintro e w' ⟨rfl, hy⟩; obtain ⟨d, rfl⟩ := hy.grown; clear hy
  go_wp2_with fail
  refine Calls.mono (get_no (some ⟨q, 0, none⟩) 15 ca true _ (by decide)) ?_
  rintro e w' ⟨rfl, hy⟩; obtain ⟨d, rfl⟩ := hy.grown; clear hy
  go_wp2_with fail
  rw [run_strN _ 24 9 5 Try.underlying24 Try.underlying5 Try.underlying9 (some ⟨q, 0, none⟩) ca [0, 0, 0, 20, 0, 0, 0, 16, 0, 0, 1, 16, 0, 3, 0, 5] 16 rfl (HR.out.ext (by repeat (first | (with_reducible exact Ext.refl _) | (with_reducible refine Ext.undrew ?_) | (with_reducible refine Ext.grow ?_ _) | (with_reducible refine Ext.drew ?_) | (with_reducible refine Ext.drewN ?_ _) | (with_reducible refine Ext.alloc ?_ _) | (with_reducible assumption) | ((with_reducible refine Ext.setCell ?_ ?_ _); rotate_left; (first | exact Nat.le_refl _ | ((try dsimp only); (try simp only [World.size_alloc, grow_size, World.size_setCell]); omega)))))) (by simp)]
  rw [ET.out]
  go_wp2_with fail
  refine Calls.mono (same_yes true 16 272 20 3 5 false 16 272 20 3 5 _ R1.out R2.out) ?_
  rw [ES.out]
  rintro e w' ⟨rfl, hy⟩; obtain ⟨d, rfl⟩ := hy.grown; clear hy
  go_wp2_with fail
  refine Calls.mono (put_no false 0 0 (-1) 0 0 _ R3.out) ?_
  rintro e w' ⟨rfl, hy⟩; obtain ⟨d, rfl⟩ := hy.grown; clear hy
  go_wp2
  go_ret
  exact ⟨rfl, (by repeat (first | (with_reducible exact Ext.refl _) | (with_reducible refine Ext.undrew ?_) | (with_reducible refine Ext.grow ?_ _) | (with_reducible refine Ext.drew ?_) | (with_reducible refine Ext.drewN ?_ _) | (with_reducible refine Ext.alloc ?_ _) | (with_reducible assumption) | ((with_reducible refine Ext.setCell ?_ ?_ _); rotate_left; (first | exact Nat.le_refl _ | ((try dsimp only); (try simp only [World.size_alloc, grow_size, World.size_setCell]); omega)))))⟩

end Go.Proofs.Ytmlginnnhlmoeaa
