/- Layer 7: the live question. -/
import Derived.Test.YtgpeabbbeidhpaaTagL
namespace Go.Proofs.Ytgpeabbbeidhpaa
set_option linter.unusedSimpArgs false
set_option linter.unusedVariables false
open Go.RowKit

theorem run_strN {P : Program} (w : World) (src dst e : TypeId) (hs : P.underlying src = some (.slice e)) (he : P.underlying e = some (.int .u8)) (hd : P.underlying dst = some .string) (A : Option Addr) (c : Nat) (ns : List Int) (n : Nat) (hn : ns.length = n)
    (h : RdB w A ns) (h0 : ns = [] → A = none) : (convert src dst (.slice A n c)).run P w = .ok (.string (strOf ns)) w := by
  subst hn
  exact run_str_any w src dst e hs he hd A c ns h h0
theorem rd3 (w : World) (t : TypeId) : RdB (w.alloc (.cells #[.int .u8 1, .int .u8 2, .int .u8 3] t)) (some ⟨w.heap.size, 0, none⟩) [1, 2, 3] := fun _ => ⟨w.heap.size, 0, rfl, by simp, fun j hj => (Row.new w #[.int .u8 1, .int .u8 2, .int .u8 3] t).range j _ (match j, hj with | 0, _ => rfl | 1, _ => rfl | 2, _ => rfl)⟩
theorem wp_gen {P : Program} {a : Act} {Q : Exit → Act → World → Prop} {c : Code} {w : World} (I : World → Prop) (hI : I w) (h : ∀ w', I w' → c.wp P Q a w') : c.wp P Q a w := h w hI
set_option maxRecDepth 100000 in
set_option maxHeartbeats 4000000 in
theorem head_ (w : World) : Calls Try.prog 8 #[] w fun e w' => e = .returned (.bool true) ∧ Ext w w' := by
  have n0 : ∀ w', Calls Try.prog 10 #[.int .i64 2] w' fun e w'' => ∃ q, e = .returned (.pointer (some ⟨q, 0, none⟩)) ∧ ∃ g, Hid (Mm w'' q g 2 (fun _ => 0) (fun _ => false) (fun _ => false)) ∧ Hid (Ext w' w'') ∧ w'.heap.size ≤ q ∧ w'.heap.size ≤ g := fun w' => tnew_ 2 w' (by decide) (by decide)
  have n1 : ∀ w', Calls Try.prog 10 #[.int .i64 0] w' fun e w'' => e = .returned (.pointer none) ∧ w' = w'' := fun w' => tnew_no 0 w' (by decide)
  have n2 : ∀ w', Calls Try.prog 10 #[.int .i64 65537] w' fun e w'' => e = .returned (.pointer none) ∧ w' = w'' := fun w' => tnew_no 65537 w' (by decide)
  go_enter Try.func8, Try.ntmps8
  go_upto_region 2 with (go_at_call 10; refine (n0 _).mono ?_; rintro e w1 ⟨q, rfl, g, HM, HX, hq1, hg1⟩)
  have HB1 : Hid (HB w w1 q g (fun _ => 0) (fun _ => false) (fun _ => false)) := hid ⟨HM.out, HX.out, hg1⟩
  clear HM HX hq1 hg1
  go_upto_region 3 with (fail)
  refine wp_gen (fun W => Hid (HB w W q g (fun _ => 0) (fun _ => false) (fun _ => false)) ∧ Hid (CapB W w1.heap.size [.bool true, .int .i64 16, .int .i64 48, .int .i64 20, .int .i64 3, .int .i64 0]) ∧ Hid (¬ w1.heap.size = g)) ⟨hid (HB1.out.ext (by repeat (first | (with_reducible exact Ext.refl _) | (with_reducible refine Ext.undrew ?_) | (with_reducible refine Ext.grow ?_ _) | (with_reducible refine Ext.drew ?_) | (with_reducible refine Ext.drewN ?_ _) | (with_reducible refine Ext.alloc ?_ _) | (with_reducible assumption) | ((with_reducible refine Ext.setCell ?_ ?_ _); rotate_left; (first | exact Nat.le_refl _ | ((try dsimp only); (try simp only [World.size_alloc, grow_size, World.size_setCell]); omega)))))), hid (CapB.new w1 _ _), hid (by have := HB1.out.1.ltg; omega)⟩ ?_
  rintro W2 ⟨HB2, HC2, hng0⟩
  generalize w1.heap.size = cb at HC2 hng0 ⊢
  have hng := hng0.out
  clear HB1 hng0 n0
  go_upto_region 5 with (first | (go_at_call 10; with_reducible refine (n1 _).mono ?_; rintro e w3 ⟨rfl, rfl⟩) | (go_at_call 10; with_reducible refine (n2 _).mono ?_; rintro e w3 ⟨rfl, rfl⟩))
  clear n1 n2
  have c0 := HC2.out.2 0 _ rfl
  have c1 := HC2.out.2 1 _ rfl
  have c2 := HC2.out.2 2 _ rfl
  have c3 := HC2.out.2 3 _ rfl
  have c4 := HC2.out.2 4 _ rfl
  have c5 := HC2.out.2 5 _ rfl
  have cl := HC2.out.1
  go_upto_region 6 with (go_at_call 12; refine (hb_sc w _ q g HB2.out).mono ?_; rintro e W3 ⟨rfl, HB3, HO3⟩)
  have HC3 := hid (HC2.out.only HO3.out hng)
  clear c0 c1 c2 c3 c4 c5 cl
  clear HC2 HB2 HO3
  have c0 := HC3.out.2 0 _ rfl
  have c1 := HC3.out.2 1 _ rfl
  have c2 := HC3.out.2 2 _ rfl
  have c3 := HC3.out.2 3 _ rfl
  have c4 := HC3.out.2 4 _ rfl
  have c5 := HC3.out.2 5 _ rfl
  have cl := HC3.out.1
  go_upto_region 7 with (go_at_call 12; refine (hb_sc8 w _ q g HB3.out).mono ?_; rintro e W4 ⟨rfl, HB4, HO4⟩)
  have HC4 := hid (HC3.out.only HO4.out hng)
  clear c0 c1 c2 c3 c4 c5 cl
  clear HC3 HB3 HO4
  go_upto_region 8 with (go_at_call 20; refine (hb_lc1 w _ q g HB4.out).mono ?_; rintro e W5 ⟨rfl, HB5, HO5⟩)
  have HC5 := hid (HC4.out.only HO5.out hng)
  clear HC4 HB4 HO5
  refine wp_gen (fun W => Hid (HB w W q g hB1 hT1 hD1) ∧ Hid (CapB W cb [.bool true, .int .i64 16, .int .i64 48, .int .i64 20, .int .i64 3, .int .i64 0]) ∧ Hid (CapB W W5.heap.size [.bool true, .int .i64 16, .int .i64 48, .int .i64 20, .int .i64 3, .int .i64 0]) ∧ Hid (¬ W5.heap.size = g)) ⟨hid (HB5.out.ext (by repeat (first | (with_reducible exact Ext.refl _) | (with_reducible refine Ext.undrew ?_) | (with_reducible refine Ext.grow ?_ _) | (with_reducible refine Ext.drew ?_) | (with_reducible refine Ext.drewN ?_ _) | (with_reducible refine Ext.alloc ?_ _) | (with_reducible assumption) | ((with_reducible refine Ext.setCell ?_ ?_ _); rotate_left; (first | exact Nat.le_refl _ | ((try dsimp only); (try simp only [World.size_alloc, grow_size, World.size_setCell]); omega)))))), hid (HC5.out.ext (by repeat (first | (with_reducible exact Ext.refl _) | (with_reducible refine Ext.undrew ?_) | (with_reducible refine Ext.grow ?_ _) | (with_reducible refine Ext.drew ?_) | (with_reducible refine Ext.drewN ?_ _) | (with_reducible refine Ext.alloc ?_ _) | (with_reducible assumption) | ((with_reducible refine Ext.setCell ?_ ?_ _); rotate_left; (first | exact Nat.le_refl _ | ((try dsimp only); (try simp only [World.size_alloc, grow_size, World.size_setCell]); omega)))))), hid (CapB.new W5 _ _), hid (by have := HB5.out.1.ltg; omega)⟩ ?_
  rintro W6 ⟨HB6, HC6, HA6, hna0⟩
  generalize W5.heap.size = ab at HA6 hna0 ⊢
  have hna := hna0.out
  clear HB5 HC5 hna0
  go_upto_region 9 with (go_at_call 22; go_loud (refine (hb_st w _ q g (HB6.out.ext (by repeat (first | (with_reducible exact Ext.refl _) | (with_reducible refine Ext.undrew ?_) | (with_reducible refine Ext.grow ?_ _) | (with_reducible refine Ext.drew ?_) | (with_reducible refine Ext.drewN ?_ _) | (with_reducible refine Ext.alloc ?_ _) | (with_reducible assumption) | ((with_reducible refine Ext.setCell ?_ ?_ _); rotate_left; (first | exact Nat.le_refl _ | ((try dsimp only); (try simp only [World.size_alloc, grow_size, World.size_setCell]); omega)))))) W6.heap.size (rd3 W6 _) (by have := HB6.out.1.ltg; omega)).mono ?_; rintro e W7 ⟨rfl, HB7, HO7⟩))
  have HC7 := hid ((HC6.out.ext (Ext.alloc (Ext.refl _) _)).only HO7.out hng)
  have HA7 := hid ((HA6.out.ext (Ext.alloc (Ext.refl _) _)).only HO7.out hna)
  clear HB6 HC6 HA6 HO7
  go_upto_region 10 with (go_at_call 20; refine (hb_lc2 w _ q g HB7.out).mono ?_; rintro e W8 ⟨zb, zt, za, zp, zk, rfl, HB8, HO8⟩)
  have HC8 := hid (HC7.out.only HO8.out hng)
  have HA8 := hid (HA7.out.only HO8.out hna)
  clear HC7 HA7 HB7 HO8
  refine wp_gen (fun W => Hid (HB w W q g hB2 hT2 hD1) ∧ Hid (CapB W cb [.bool true, .int .i64 16, .int .i64 48, .int .i64 20, .int .i64 3, .int .i64 0]) ∧ Hid (CapB W ab [.bool true, .int .i64 16, .int .i64 48, .int .i64 20, .int .i64 3, .int .i64 0]) ∧ Hid (CapB W W8.heap.size [.bool false, .int .i64 zb, .int .i64 zt, .int .i64 za, .int .i64 zp, .int .i64 zk]) ∧ Hid (¬ W8.heap.size = g)) ⟨hid (HB8.out.ext (by repeat (first | (with_reducible exact Ext.refl _) | (with_reducible refine Ext.undrew ?_) | (with_reducible refine Ext.grow ?_ _) | (with_reducible refine Ext.drew ?_) | (with_reducible refine Ext.drewN ?_ _) | (with_reducible refine Ext.alloc ?_ _) | (with_reducible assumption) | ((with_reducible refine Ext.setCell ?_ ?_ _); rotate_left; (first | exact Nat.le_refl _ | ((try dsimp only); (try simp only [World.size_alloc, grow_size, World.size_setCell]); omega)))))), hid (HC8.out.ext (by repeat (first | (with_reducible exact Ext.refl _) | (with_reducible refine Ext.undrew ?_) | (with_reducible refine Ext.grow ?_ _) | (with_reducible refine Ext.drew ?_) | (with_reducible refine Ext.drewN ?_ _) | (with_reducible refine Ext.alloc ?_ _) | (with_reducible assumption) | ((with_reducible refine Ext.setCell ?_ ?_ _); rotate_left; (first | exact Nat.le_refl _ | ((try dsimp only); (try simp only [World.size_alloc, grow_size, World.size_setCell]); omega)))))), hid (HA8.out.ext (by repeat (first | (with_reducible exact Ext.refl _) | (with_reducible refine Ext.undrew ?_) | (with_reducible refine Ext.grow ?_ _) | (with_reducible refine Ext.drew ?_) | (with_reducible refine Ext.drewN ?_ _) | (with_reducible refine Ext.alloc ?_ _) | (with_reducible assumption) | ((with_reducible refine Ext.setCell ?_ ?_ _); rotate_left; (first | exact Nat.le_refl _ | ((try dsimp only); (try simp only [World.size_alloc, grow_size, World.size_setCell]); omega)))))), hid (CapB.new W8 _ _), hid (by have := HB8.out.1.ltg; omega)⟩ ?_
  rintro W9 ⟨HB9, HC9, HA9, HY9, hny0⟩
  generalize W8.heap.size = yb at HY9 hny0 ⊢
  have hny := hny0.out
  clear HB8 HC8 HA8 hny0
  go_upto_region 11 with (go_at_call 18; refine (hb_ld w _ q g HB9.out).mono ?_; rintro e W10 ⟨lb, rfl, HR10, HB10, HO10, hnl⟩)
  have HC10 := hid (HC9.out.only HO10.out hng)
  have HA10 := hid (HA9.out.only HO10.out hna)
  have HY10 := hid (HY9.out.only HO10.out hny)
  clear HB9 HC9 HA9 HY9 HO10
  go_upto_region 12 with (go_at_call 16; refine (hb_cl w _ q g HB10.out).mono ?_; rintro e W11 ⟨rfl, HB11, HO11⟩)
  have HC11 := hid (HC10.out.only HO11.out hng)
  have HA11 := hid (HA10.out.only HO11.out hna)
  have HY11 := hid (HY10.out.only HO11.out hny)
  have HR11 := hid (HR10.out.only HO11.out (fun b o e => by cases e; exact hnl))
  clear HB10 HC10 HA10 HY10 HR10 HO11
  have c0 := HC11.out.2 0 _ rfl
  have c1 := HC11.out.2 1 _ rfl
  have c2 := HC11.out.2 2 _ rfl
  have c3 := HC11.out.2 3 _ rfl
  have c4 := HC11.out.2 4 _ rfl
  have c5 := HC11.out.2 5 _ rfl
  have cl := HC11.out.1
  have a0 := HA11.out.2 0 _ rfl
  have a1 := HA11.out.2 1 _ rfl
  have a2 := HA11.out.2 2 _ rfl
  have a3 := HA11.out.2 3 _ rfl
  have a4 := HA11.out.2 4 _ rfl
  have a5 := HA11.out.2 5 _ rfl
  have al := HA11.out.1
  have y0 := HY11.out.2 0 _ rfl
  have yl := HY11.out.1
  have hs := run_strN (P := Try.prog) W11 29 9 5 Try.underlying29 Try.underlying5 Try.underlying9 (some ⟨lb, 0, none⟩) 4 [1, 2, 3, 0] 4 rfl HR11.out (by simp)
  have hstr : (strOf [1, 2, 3, 0]).toList = [1, 2, 3, 0] := by decide +kernel
  go_wp2_with (first | (go_at_call 25; refine (hb_tg w _ q g HB11.out).mono ?_; rintro e W12 ⟨A12, ca12, rfl, HB12⟩) | (go_at_call 27; refine (hb_dr w _ q g HB12.out).mono ?_; rintro e W13 ⟨A13, ca13, rfl, HB13⟩) | (go_at_call 31; refine (hb_sz w _ q g HB13.out).mono ?_; rintro e W14 ⟨rfl, HB14⟩) | (go_at_call 14; refine (hb_sp w _ q g HB14.out).mono ?_; rintro e W15 ⟨rfl, HB15⟩))
  go_ret
  exact ⟨by rfl, HB15.out.2.1⟩

end Go.Proofs.Ytgpeabbbeidhpaa
