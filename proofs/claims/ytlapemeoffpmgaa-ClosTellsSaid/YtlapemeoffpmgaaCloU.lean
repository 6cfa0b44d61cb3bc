/- Layer 6: the document's Has. -/
import Derived.Test.YtlapemeoffpmgaaCloT
namespace Go.Proofs.Ytlapemeoffpmgaa
set_option linter.unusedSimpArgs false
set_option linter.unusedVariables false
open Go.RowKit

theorem hasS_no {G O : List Cap} {c : Cap} (h : rightC c = false) : hasS G O c = false := by simp [hasS, h]
theorem hasS_un {G O : List Cap} {c : Cap} (h : rightC c = true) (ht : c.tag = false) : hasS G O c = true := by simp [hasS, h, ht]
theorem hasS_gr {G O : List Cap} {c : Cap} (h : rightC c = true) (hg : G.any (grB c) = true) : hasS G O c = true := by simp [hasS, h, hg]
theorem hasS_of {G O : List Cap} {c : Cap} (h : rightC c = true) (ht : c.tag = true) (hg : G.any (grB c) = false) : hasS G O c = (O.any (underR c) && (if c.type = 1 then hasR c.perms 4 else (decide (c.type = 0) || O.any (ovC 32 c.type)))) := by
  have hb := rightC_bd h
  have e1 : (O.any (underC c)) = O.any (underR c) := by congr 1; funext d; rw [underR_under]
  have e2 : slbC O c = (if c.type = 1 then hasR c.perms 4 else (decide (c.type = 0) || O.any (ovC 32 c.type))) := by
    unfold slbC
    by_cases h0 : c.type = 0
    · rw [if_pos h0, if_neg (by omega), decide_eq_true h0, Bool.true_or]
    · rw [if_neg h0]
      by_cases h1 : c.type = 1
      · rw [if_pos h1, if_pos h1, hasR_has]
      · rw [if_neg h1, if_neg h1, decide_eq_false h0, Bool.false_or]
        congr 1
        funext d
        rw [ovC, decide_eq_true (show 2 ≤ c.type by omega), decide_eq_true (show c.type ≤ 255 by omega)]
        rfl
  rw [hasS, h, ht, hg, e1, e2]
  rfl
set_option maxRecDepth 100000 in
set_option maxHeartbeats 4000000 in
theorem rHas_ (t : Bool) (b tp a p ty : Int) (s : Nat) (A : Option Addr) (cg : Nat) (G : List Cap) (B : Option Addr) (co : Nat) (O : List Cap) (w : World) (h : ClS w s A cg G B co O) (hg : G.length ≤ 1000000000) (ho : O.length ≤ 1000000000) : Calls Try.prog 14 #[.pointer (some ⟨s, 0, none⟩), .agg #[.bool t, .int .i64 b, .int .i64 tp, .int .i64 a, .int .i64 p, .int .i64 ty]] w fun e w' => e = .returned (.bool (hasS G O ⟨t, b, tp, a, p, ty⟩)) ∧ Ext w w' := by
  have HR : Hid (∀ W, Ext w W → Calls Try.prog 22 #[.agg #[.bool t, .int .i64 b, .int .i64 tp, .int .i64 a, .int .i64 p, .int .i64 ty]] W fun e w' => e = .returned (.bool (rightC ⟨t, b, tp, a, p, ty⟩)) ∧ Ext W w') := hid (fun W hx => rcapRight t b tp a p ty W)
  have HU : Hid (∀ W, Ext w W → Calls Try.prog 32 #[.pointer (some ⟨s, 0, none⟩), .agg #[.bool t, .int .i64 b, .int .i64 tp, .int .i64 a, .int .i64 p, .int .i64 ty]] W fun e w' => e = .returned (.bool (O.any (underR ⟨t, b, tp, a, p, ty⟩))) ∧ Ext W w') := hid (fun W hx => runder_ t b tp a p ty s A cg G B co O W (h.ext hx) ho)
  have HV0 : Hid (True ∧ ∀ W, Ext w W → Calls Try.prog 27 #[.slice B O.length co, .int .i64 ty, .int .i64 32] W fun e w' => e = .returned (.bool (O.any (ovC 32 ty))) ∧ Ext W w') := hid ⟨trivial, fun W hx => rcover_ B _ co O ty 32 W (h.ext hx).r1 rfl ho⟩
  have HB0 := hid (h.ext ((Ext.refl w).alloc (.cells #[.bool t, .int .i64 b, .int .i64 tp, .int .i64 a, .int .i64 p, .int .i64 ty] 24)))
  have HA := hid HB0.out.r0
  clear h
  cases hr : rightC ⟨t, b, tp, a, p, ty⟩ with
  | false =>
    have HR1 := hid hr
    rw [hr] at HR
    clear hr
    go_enter Try.func14, Try.ntmps14
    go_wp2_with fail
    refine (HR.out _ (by repeat (first | (with_reducible exact Ext.refl _) | (with_reducible refine Ext.undrew ?_) | (with_reducible refine Ext.grow ?_ _) | (with_reducible refine Ext.drew ?_) | (with_reducible refine Ext.drewN ?_ _) | (with_reducible refine Ext.alloc ?_ _) | (with_reducible assumption) | ((with_reducible refine Ext.setCell ?_ ?_ _); rotate_left; (first | exact Nat.le_refl _ | ((try dsimp only); (try simp only [World.size_alloc, grow_size, World.size_setCell]); omega)))))).mono ?_; rintro e W1 ⟨rfl, hy⟩
    go_wp2
    go_ret
    exact ⟨by rw [hasS_no HR1.out]; rfl, ((Ext.refl _).alloc _).trans hy⟩
  | true =>
    have HR1 := hid hr
    rw [hr] at HR
    clear hr
    cases t with
    | false =>
      go_enter Try.func14, Try.ntmps14
      go_wp2_with fail
      refine (HR.out _ (by repeat (first | (with_reducible exact Ext.refl _) | (with_reducible refine Ext.undrew ?_) | (with_reducible refine Ext.grow ?_ _) | (with_reducible refine Ext.drew ?_) | (with_reducible refine Ext.drewN ?_ _) | (with_reducible refine Ext.alloc ?_ _) | (with_reducible assumption) | ((with_reducible refine Ext.setCell ?_ ?_ _); rotate_left; (first | exact Nat.le_refl _ | ((try dsimp only); (try simp only [World.size_alloc, grow_size, World.size_setCell]); omega)))))).mono ?_; rintro e W1 ⟨rfl, hy⟩
      obtain ⟨d1, rfl⟩ := hy.grown
      clear hy
      go_wp2
      go_ret
      exact ⟨by rw [hasS_un HR1.out rfl]; rfl, (by repeat (first | (with_reducible exact Ext.refl _) | (with_reducible refine Ext.undrew ?_) | (with_reducible refine Ext.grow ?_ _) | (with_reducible refine Ext.drew ?_) | (with_reducible refine Ext.drewN ?_ _) | (with_reducible refine Ext.alloc ?_ _) | (with_reducible assumption) | ((with_reducible refine Ext.setCell ?_ ?_ _); rotate_left; (first | exact Nat.le_refl _ | ((try dsimp only); (try simp only [World.size_alloc, grow_size, World.size_setCell]); omega)))))⟩
    | true =>
      go_enter Try.func14, Try.ntmps14
      go_wp2_with fail
      refine (HR.out _ (by repeat (first | (with_reducible exact Ext.refl _) | (with_reducible refine Ext.undrew ?_) | (with_reducible refine Ext.grow ?_ _) | (with_reducible refine Ext.drew ?_) | (with_reducible refine Ext.drewN ?_ _) | (with_reducible refine Ext.alloc ?_ _) | (with_reducible assumption) | ((with_reducible refine Ext.setCell ?_ ?_ _); rotate_left; (first | exact Nat.le_refl _ | ((try dsimp only); (try simp only [World.size_alloc, grow_size, World.size_setCell]); omega)))))).mono ?_; rintro e W1 ⟨rfl, hy0⟩
      have hr9 := Row.six (c := ⟨true, b, tp, a, p, ty⟩) ((Row.new w #[.bool true, .int .i64 b, .int .i64 tp, .int .i64 a, .int .i64 p, .int .i64 ty] 24).ext hy0)
      obtain ⟨g0, g1, g2, g3, g4, g5, g6⟩ := hr9
      have HY0 := hid hy0
      clear hy0
      go_wp2
      clear g0 g1 g2 g3 g4 g5 g6
      go_loopw [5] (fun i wr => ∃ k : Nat, k ≤ G.length ∧ i = .int .i64 k ∧ Hid ((G.take k).any (grB ⟨true, b, tp, a, p, ty⟩) = false) ∧ Hid (Ext (w.alloc (.cells #[.bool true, .int .i64 b, .int .i64 tp, .int .i64 a, .int .i64 p, .int .i64 ty] 24)) wr)) (fun i _ => G.length - (intOf i).toNat)
      case atStart => exact ⟨0, Nat.zero_le _, rfl, hid (by first | rfl | simp), HY0⟩
      case round =>
        obtain ⟨k, hk, rfl, HN, HX⟩ := hrel
        have k0 := (HB0.out.ext HX.out).c0
        have k1 := (HB0.out.ext HX.out).c1
        have hs := (HB0.out.ext HX.out).lt
        by_cases hlt : k < G.length
        · have hk1 : (k : Int) < (G.length : Int) := by omega
          have hk0 : (0 : Int) ≤ (k : Int) := by omega
          obtain ⟨d, hd⟩ : ∃ d, G[k] = d := ⟨_, rfl⟩
          have HT : Hid ((G.take (k + 1)).any (grB ⟨true, b, tp, a, p, ty⟩) = (grB ⟨true, b, tp, a, p, ty⟩) d) := hid (by rw [List.take_succ_eq_append_getElem hlt, List.any_append, HN.out, Bool.false_or, hd]; simp)
          have HM : Hid (d ∈ G) := hid (by rw [← hd]; exact List.getElem_mem _)
          obtain ⟨b', o', hB',  hb1, c0, c1, c2, c3, c4, c5⟩ := (HA.out.ext HX.out).cap hlt d hd
          subst hB'
          clear hd
          obtain ⟨g0, g1, g2, g3, g4, g5, g6⟩ := Row.six (c := ⟨true, b, tp, a, p, ty⟩) ((Row.new w #[.bool true, .int .i64 b, .int .i64 tp, .int .i64 a, .int .i64 p, .int .i64 ty] 24).ext HX.out)
          cases hg : grB ⟨true, b, tp, a, p, ty⟩ d with
          | false =>
            replace HT : Hid ((G.take (k + 1)).any (grB ⟨true, b, tp, a, p, ty⟩) = false) := hid (HT.out.trans hg)
            cases h14 : d.tag with
            | true =>
              rw [h14] at c0
              by_cases h10 : d.base = b
              · subst h10
                by_cases h12 : d.top = tp
                · subst h12
                  by_cases h14 : d.perms = p
                  · subst h14
                    have h9 : ¬ d.type = ty := fun e => by rw [grB_eq] at hg; simp only at hg; rw [h14] at hg; subst e; simp at hg
                    clear hg
                    go_wp2
                    go_roundw
                    case rel => exact ⟨k + 1, by omega, by go_num, HT, hid (HX.out.trans (by repeat (first | (with_reducible exact Ext.refl _) | (with_reducible refine Ext.undrew ?_) | (with_reducible refine Ext.grow ?_ _) | (with_reducible refine Ext.drew ?_) | (with_reducible refine Ext.drewN ?_ _) | (with_reducible refine Ext.alloc ?_ _) | (with_reducible assumption) | ((with_reducible refine Ext.setCell ?_ ?_ _); rotate_left; (first | exact Nat.le_refl _ | ((try dsimp only); (try simp only [World.size_alloc, grow_size, World.size_setCell]); omega))))))⟩
                    case measure => simp [intOf]; omega
                  · clear hg
                    go_wp2
                    go_roundw
                    case rel => exact ⟨k + 1, by omega, by go_num, HT, hid (HX.out.trans (by repeat (first | (with_reducible exact Ext.refl _) | (with_reducible refine Ext.undrew ?_) | (with_reducible refine Ext.grow ?_ _) | (with_reducible refine Ext.drew ?_) | (with_reducible refine Ext.drewN ?_ _) | (with_reducible refine Ext.alloc ?_ _) | (with_reducible assumption) | ((with_reducible refine Ext.setCell ?_ ?_ _); rotate_left; (first | exact Nat.le_refl _ | ((try dsimp only); (try simp only [World.size_alloc, grow_size, World.size_setCell]); omega))))))⟩
                    case measure => simp [intOf]; omega
                · clear hg
                  go_wp2
                  go_roundw
                  case rel => exact ⟨k + 1, by omega, by go_num, HT, hid (HX.out.trans (by repeat (first | (with_reducible exact Ext.refl _) | (with_reducible refine Ext.undrew ?_) | (with_reducible refine Ext.grow ?_ _) | (with_reducible refine Ext.drew ?_) | (with_reducible refine Ext.drewN ?_ _) | (with_reducible refine Ext.alloc ?_ _) | (with_reducible assumption) | ((with_reducible refine Ext.setCell ?_ ?_ _); rotate_left; (first | exact Nat.le_refl _ | ((try dsimp only); (try simp only [World.size_alloc, grow_size, World.size_setCell]); omega))))))⟩
                  case measure => simp [intOf]; omega
              · clear hg
                go_wp2
                go_roundw
                case rel => exact ⟨k + 1, by omega, by go_num, HT, hid (HX.out.trans (by repeat (first | (with_reducible exact Ext.refl _) | (with_reducible refine Ext.undrew ?_) | (with_reducible refine Ext.grow ?_ _) | (with_reducible refine Ext.drew ?_) | (with_reducible refine Ext.drewN ?_ _) | (with_reducible refine Ext.alloc ?_ _) | (with_reducible assumption) | ((with_reducible refine Ext.setCell ?_ ?_ _); rotate_left; (first | exact Nat.le_refl _ | ((try dsimp only); (try simp only [World.size_alloc, grow_size, World.size_setCell]); omega))))))⟩
                case measure => simp [intOf]; omega
            | false =>
              rw [h14] at c0
              clear hg
              go_wp2
              go_roundw
              case rel => exact ⟨k + 1, by omega, by go_num, HT, hid (HX.out.trans (by repeat (first | (with_reducible exact Ext.refl _) | (with_reducible refine Ext.undrew ?_) | (with_reducible refine Ext.grow ?_ _) | (with_reducible refine Ext.drew ?_) | (with_reducible refine Ext.drewN ?_ _) | (with_reducible refine Ext.alloc ?_ _) | (with_reducible assumption) | ((with_reducible refine Ext.setCell ?_ ?_ _); rotate_left; (first | exact Nat.le_refl _ | ((try dsimp only); (try simp only [World.size_alloc, grow_size, World.size_setCell]); omega))))))⟩
              case measure => simp [intOf]; omega
          | true =>
            have hv : G.any (grB ⟨true, b, tp, a, p, ty⟩) = true := List.any_eq_true.2 ⟨d, HM.out, hg⟩
            have HV := hid hv
            clear hv
            rw [grB_eq] at hg
            simp only [Bool.and_eq_true, beq_iff_eq] at hg
            obtain ⟨⟨⟨⟨e0, rfl⟩, rfl⟩, rfl⟩, rfl⟩ := hg
            rw [e0] at c0
            go_wp2
            go_ret
            exact ⟨by rw [hasS_gr HR1.out HV.out]; rfl, ((Ext.refl _).alloc _).trans (HX.out.trans (by repeat (first | (with_reducible exact Ext.refl _) | (with_reducible refine Ext.undrew ?_) | (with_reducible refine Ext.grow ?_ _) | (with_reducible refine Ext.drew ?_) | (with_reducible refine Ext.drewN ?_ _) | (with_reducible refine Ext.alloc ?_ _) | (with_reducible assumption) | ((with_reducible refine Ext.setCell ?_ ?_ _); rotate_left; (first | exact Nat.le_refl _ | ((try dsimp only); (try simp only [World.size_alloc, grow_size, World.size_setCell]); omega))))))⟩
        · obtain rfl : k = G.length := by omega
          have hv : G.any (grB ⟨true, b, tp, a, p, ty⟩) = false := by have := HN.out; rwa [List.take_length] at this
          have HV := hid hv
          clear hv
          obtain ⟨g0, g1, g2, g3, g4, g5, g6⟩ := Row.six (c := ⟨true, b, tp, a, p, ty⟩) ((Row.new w #[.bool true, .int .i64 b, .int .i64 tp, .int .i64 a, .int .i64 p, .int .i64 ty] 24).ext HX.out)
          have hs9 := hasS_of (O := O) HR1.out rfl HV.out
          have HS9 := hid hs9
          clear hs9
          go_wp2_with fail
          refine (HU.out _ (((Ext.refl _).alloc _).trans HX.out)).mono ?_; rintro e W1 ⟨he, hy⟩
          have HY := hid hy
          clear hy
          have h0 := HY.out.size
          replace g1 := (HY.out.cells w.heap.size 0 g0).trans g1
          replace g2 := (HY.out.cells w.heap.size _ g0).trans g2
          replace g3 := (HY.out.cells w.heap.size _ g0).trans g3
          replace g4 := (HY.out.cells w.heap.size _ g0).trans g4
          replace g5 := (HY.out.cells w.heap.size _ g0).trans g5
          replace g6 := (HY.out.cells w.heap.size _ g0).trans g6
          replace k1 := (HY.out.cells s _ hs).trans k1
          replace g0 := Nat.lt_of_lt_of_le g0 h0
          replace hs := Nat.lt_of_lt_of_le hs h0
          clear h0
          cases hu : O.any (underR ⟨true, b, tp, a, p, ty⟩) with
          | false =>
            rw [hu] at he
            subst he
            have HU9 := hid hu
            clear hu
            go_wp2
            go_ret
            exact ⟨by rw [HS9.out, HU9.out]; rfl, ((Ext.refl _).alloc _).trans (HX.out.trans HY.out)⟩
          | true =>
            rw [hu] at he
            subst he
            have HU9 := hid hu
            clear hu
            by_cases e1 : ty = 1
            · subst e1
              go_wp2_with fail
              refine (rhas _ _ _).mono ?_; rintro e w1 ⟨rfl, rfl⟩
              go_wp2
              go_ret
              exact ⟨by rw [HS9.out, HU9.out]; rfl, ((Ext.refl _).alloc _).trans (HX.out.trans HY.out)⟩
            · by_cases e0 : ty = 0
              · subst e0
                go_upto_region 16 with fail
                refine wp_region_grow (by kernel_rfl) (by kernel_rfl) (by first | (simp only [List.append]; rfl) | rfl) ?_
                (repeat (go_big_quiet_step (fail)))
                refine wpQuiet_nil ?_
                intro wq hq
                obtain ⟨dq, rfl⟩ := hq
                go_wp2
                go_ret
                exact ⟨by rw [HS9.out, HU9.out]; rfl, ((Ext.refl _).alloc _).trans (HX.out.trans (HY.out.trans (by repeat (first | (with_reducible exact Ext.refl _) | (with_reducible refine Ext.undrew ?_) | (with_reducible refine Ext.grow ?_ _) | (with_reducible refine Ext.drew ?_) | (with_reducible refine Ext.drewN ?_ _) | (with_reducible refine Ext.alloc ?_ _) | (with_reducible assumption) | ((with_reducible refine Ext.setCell ?_ ?_ _); rotate_left; (first | exact Nat.le_refl _ | ((try dsimp only); (try simp only [World.size_alloc, grow_size, World.size_setCell]); omega)))))))⟩
              · have HVV := hid (HV0.out.2 W1 (((Ext.refl _).alloc _).trans (HX.out.trans HY.out)))
                have HVW : Hid (∀ W, Ext W1 W → Calls Try.prog 27 #[.slice B O.length co, .int .i64 ty, .int .i64 32] W fun e w' => e = .returned (.bool (O.any (ovC 32 ty))) ∧ Ext W w') := hid (fun W hx => HV0.out.2 W (((Ext.refl _).alloc _).trans (HX.out.trans (HY.out.trans hx))))
                have hfin : hasS G O ⟨true, b, tp, a, p, ty⟩ = O.any (ovC 32 ty) := by
                  rw [HS9.out, HU9.out]
                  simp only [if_neg e1, decide_eq_false e0, Bool.true_and, Bool.false_or]
                have HF := hid hfin
                clear hfin
                generalize O.any (ovC 32 ty) = vo at HVW HF
                have hz : (ty == 0) = false := by simp [e0]
                go_upto_region 16 with fail
                refine wp_region_grow (by kernel_rfl) (by kernel_rfl) (by first | (simp only [List.append]; rfl) | rfl) ?_
                (repeat (go_big_quiet_step ((go_at_call 27; exact growOf (HVW.out _ (by repeat (first | (with_reducible exact Ext.refl _) | (with_reducible refine Ext.undrew ?_) | (with_reducible refine Ext.grow ?_ _) | (with_reducible refine Ext.drew ?_) | (with_reducible refine Ext.drewN ?_ _) | (with_reducible refine Ext.alloc ?_ _) | (with_reducible assumption) | ((with_reducible refine Ext.setCell ?_ ?_ _); rotate_left; (first | exact Nat.le_refl _ | ((try dsimp only); (try simp only [World.size_alloc, grow_size, World.size_setCell]); omega))))))))))
                refine wpQuiet_nil ?_
                intro wq hq
                obtain ⟨dq, rfl⟩ := hq
                go_wp2
                go_ret
                exact ⟨by rw [HF.out]; rfl, ((Ext.refl _).alloc _).trans (HX.out.trans (HY.out.trans (by repeat (first | (with_reducible exact Ext.refl _) | (with_reducible refine Ext.undrew ?_) | (with_reducible refine Ext.grow ?_ _) | (with_reducible refine Ext.drew ?_) | (with_reducible refine Ext.drewN ?_ _) | (with_reducible refine Ext.alloc ?_ _) | (with_reducible assumption) | ((with_reducible refine Ext.setCell ?_ ?_ _); rotate_left; (first | exact Nat.le_refl _ | ((try dsimp only); (try simp only [World.size_alloc, grow_size, World.size_setCell]); omega)))))))⟩

end Go.Proofs.Ytlapemeoffpmgaa
