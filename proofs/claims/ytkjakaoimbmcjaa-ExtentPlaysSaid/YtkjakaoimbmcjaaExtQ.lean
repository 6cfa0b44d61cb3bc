/- Layer 12: the live question. -/
import Derived.Test.YtkjakaoimbmcjaaExtP
namespace Go.Proofs.Ytkjakaoimbmcjaa
set_option linter.unusedSimpArgs false
set_option linter.unusedVariables false
open Go.RowKit

theorem okF.nil : okF [] := fun x h => by cases h
theorem okF.cons {p : Pr} {l : List Pr} (hp : 0 ≤ p.lo ∧ p.lo ≤ p.hi ∧ p.hi ≤ 16777216) (h : okF l) : okF (p :: l) := fun x hx => by
  rcases List.mem_cons.1 hx with rfl | hx
  · exact hp
  · exact h x hx
/-- Their ends rise. -/
theorem rise_mono {l : List Pr} (h : l.Pairwise (fun x y => x.hi ≤ y.hi)) (at_ : Int) : ∀ (a b : Nat) (hb : b < l.length) (hab : a ≤ b), at_ < (l[a]'(by omega)).hi → at_ < (l[b]).hi := fun a b hb hab ha => by
  rcases Nat.lt_or_ge a b with h1 | h1
  · have := (List.pairwise_iff_getElem.1 h) a b (by omega) hb h1
    omega
  · obtain rfl : a = b := by omega
    exact ha
theorem RdP.new1 (w : World) (p : Pr) (T : TypeId) : RdP (w.alloc (.cells #[.int .i64 p.lo, .int .i64 p.hi] T)) (some ⟨w.heap.size, 0, none⟩) [p] := fun _ =>
  ⟨w.heap.size, 0, rfl, by simp, fun j u hj => (Row.new w #[.int .i64 p.lo, .int .i64 p.hi] T).at_ j u (by rw [prList_one] at hj; exact hj)⟩
theorem RdP.new2 (w : World) (p r : Pr) (T : TypeId) : RdP (w.alloc (.cells #[.int .i64 p.lo, .int .i64 p.hi, .int .i64 r.lo, .int .i64 r.hi] T)) (some ⟨w.heap.size, 0, none⟩) [p, r] := fun _ =>
  ⟨w.heap.size, 0, rfl, by simp, fun j u hj => (Row.new w #[.int .i64 p.lo, .int .i64 p.hi, .int .i64 r.lo, .int .i64 r.hi] T).at_ j u (by rw [prList_cons, prList_one] at hj; exact hj)⟩
set_option maxRecDepth 100000 in
set_option maxHeartbeats 4000000 in
theorem head_ (w : World) : Calls Try.prog 8 #[] w fun e w' => e = .returned (.bool true) ∧ Ext w w' := by
  have n1 : ∀ w', Calls Try.prog 9 #[.int .i64 8, .int .i64 16] w' fun e w'' => e = .returned (.pointer none) ∧ Ext w' w'' := fun w' => enew_no1 8 16 w' (by decide)
  have n2 : ∀ w', Calls Try.prog 9 #[.int .i64 32, .int .i64 16] w' fun e w'' => e = .returned (.pointer none) ∧ Ext w' w'' := fun w' => enew_no3 32 16 w' (by decide) (by decide) (by decide)
  go_enter Try.func8, Try.ntmps8
  go_upto_region 2 with (go_at_call 9; refine (enew_ 64 160 _ (by decide) (by decide) (by decide) (by decide)).mono ?_; rintro e w1 ⟨q, v1, rfl, hq1, hx1, hF1⟩)
  have HE1 : Hid (EX w w1 q w.heap.size 64 160 v1 [(Pr.mk 64 160)]) := hid ⟨hF1, hx1, Nat.le_refl _⟩
  clear hF1 hx1 hq1
  generalize w.heap.size = base at HE1
  go_upto_region 4 with (first | (go_at_call 9; with_reducible refine (n1 _).mono ?_; rintro e w2 ⟨rfl, hx2⟩) | (go_at_call 9; with_reducible refine (n2 _).mono ?_; rintro e w3 ⟨rfl, hx3⟩))
  have HE4 := hid ((HE1.out.ext hx2).ext hx3)
  clear HE1 hx2 hx3 n1 n2
  go_upto_region 5 with (go_at_call 11; refine (xTake w q base 64 160 _ [(Pr.mk 64 160)] _ HE4.out (okF.cons (by decide) okF.nil) (by decide) 16 (by decide) (by decide) 0 (by decide) (by rfl) [(Pr.mk 80 160)] (by rfl) 64 (by rfl)).mono ?_; rintro e w5 ⟨v5, rfl, HE5, _⟩)
  clear HE4
  go_upto_region 6 with (go_at_call 11; refine (xTake w q base 64 160 _ [(Pr.mk 80 160)] _ HE5.out (okF.cons (by decide) okF.nil) (by decide) 48 (by decide) (by decide) 0 (by decide) (by rfl) [(Pr.mk 128 160)] (by rfl) 80 (by rfl)).mono ?_; rintro e w6 ⟨v6, rfl, HE6, _⟩)
  clear HE5
  go_upto_region 7 with (go_at_call 11; refine (xTakeNo w q base 64 160 _ [(Pr.mk 128 160)] _ HE6.out (okF.cons (by decide) okF.nil) (by decide) 48 (.inr (.inr (by rfl)))).mono ?_; rintro e w7 ⟨rfl, HE7, _⟩)
  clear HE6
  go_upto_region 8 with (go_at_call 13; refine (xGive w q base 64 160 _ [(Pr.mk 128 160)] _ HE7.out 64 16 (by decide) (by decide) (by decide) (by decide) (by decide) (by decide) (by decide) (by decide) (rise_mono (by decide) _) 0 (by decide) (by decide) (by decide) (by decide) [(Pr.mk 64 80), (Pr.mk 128 160)] (by rfl)).mono ?_; rintro e w8 ⟨v8, rfl, HE8, _⟩)
  clear HE7
  go_upto_region 9 with (go_at_call 13; refine (xGiveMeets w q base 64 160 _ [(Pr.mk 64 80), (Pr.mk 128 160)] _ HE8.out 64 16 (by decide) (by decide) (by decide) (by decide) (by decide) (by decide) (by decide) (by decide) (rise_mono (by decide) _) 0 (by decide) (by decide) (by decide) (by decide) (by decide)).mono ?_; rintro e w9 ⟨rfl, HE9⟩)
  clear HE8
  go_upto_region 10 with (go_at_call 20; refine (xRuns w q base 64 160 _ [(Pr.mk 64 80), (Pr.mk 128 160)] _ HE9.out (by decide)).mono ?_; rintro e w10 ⟨A10, c10, rfl, HR10, HE10, _, HF10⟩)
  have hA10 : ∀ b o, A10 = some ⟨b, o, none⟩ → ¬ tch q v8 b := fun b o e => by
    have h1 := HF10.out b o e
    rintro (h2 | h2)
    · have := HE9.out.1.1; omega
    · have := (HE9.out.1.2.2.2.1.lt b h2).2; omega
  clear HE9
  go_upto_region 11 with (go_at_call 13; refine (xGive w q base 64 160 _ [(Pr.mk 64 80), (Pr.mk 128 160)] _ HE10.out 80 48 (by decide) (by decide) (by decide) (by decide) (by decide) (by decide) (by decide) (by decide) (rise_mono (by decide) _) 1 (by decide) (by decide) (by decide) (by decide) [(Pr.mk 64 160)] (by rfl)).mono ?_; rintro e w11 ⟨v11, rfl, HE11, HO11⟩)
  have HR11 := hid (HR10.out.only HO11.out hA10)
  clear HE10 HR10 HO11 HF10 hA10
  go_wp2_with (first | (go_at_call 19; with_reducible refine (esame_ A10 _ 2 c10 2 [(Pr.mk 64 80), (Pr.mk 128 160)] _ (HR11.out.ext (Ext.alloc (Ext.refl _) _)) (RdP.new2 w11 (Pr.mk 64 80) (Pr.mk 128 160) _) (by decide) (by decide)).mono ?_; rintro e w12 ⟨rfl, hx12⟩; have HE12 := hid ((HE11.out.ext (Ext.alloc (Ext.refl _) _)).ext hx12)) | (go_at_call 20; refine (xRuns w q base 64 160 _ [(Pr.mk 64 160)] _ HE12.out (by decide)).mono ?_; rintro e w13 ⟨A13, c13, rfl, HR13, HE13, _, _⟩) | (go_at_call 19; with_reducible refine (esame_ A13 _ 1 c13 1 [(Pr.mk 64 160)] _ (HR13.out.ext (Ext.alloc (Ext.refl _) _)) (RdP.new1 w13 (Pr.mk 64 160) _) (by decide) (by decide)).mono ?_; rintro e w14 ⟨rfl, hx14⟩; have HE14 := hid ((HE13.out.ext (Ext.alloc (Ext.refl _) _)).ext hx14)) | (go_at_call 15; refine (xAll w q base 64 160 _ [(Pr.mk 64 160)] _ HE14.out (okF.cons (by decide) okF.nil) (by decide)).mono ?_; rintro e w15 ⟨rfl, HE15, _⟩) | (go_at_call 17; refine (xMost w q base 64 160 _ [(Pr.mk 64 160)] _ HE15.out (okF.cons (by decide) okF.nil) (by decide)).mono ?_; rintro e w16 ⟨rfl, HE16, _⟩))
  go_ret
  exact ⟨by rfl, HE16.out.2.1⟩

end Go.Proofs.Ytkjakaoimbmcjaa
