/- Layer 6: the set, Has. -/
import Derived.Test.YtlapemeoffpmgaaCloC
namespace Go.Proofs.Ytlapemeoffpmgaa
set_option linter.unusedSimpArgs false
set_option linter.unusedVariables false
open Go.RowKit

/-- A set as it lies in memory: its grants, and what is open and greatest. -/
structure ClS (w : World) (s : Nat) (A : Option Addr) (cg : Nat) (G : List Cap) (B : Option Addr) (co : Nat) (O : List Cap) : Prop where
  lt : s < w.heap.size
  c0 : w.cell? ⟨s, 0, none⟩ = some (.slice A G.length cg)
  c1 : w.cell? ⟨s, 1, none⟩ = some (.slice B O.length co)
  r0 : RdF Cap.cells w A G
  r1 : RdF Cap.cells w B O
theorem ClS.ext {w w' : World} {s : Nat} {A : Option Addr} {cg : Nat} {G : List Cap} {B : Option Addr} {co : Nat} {O : List Cap} (h : ClS w s A cg G B co O) (x : Ext w w') : ClS w' s A cg G B co O :=
  ⟨Nat.lt_of_lt_of_le h.lt x.size, (x.cells s _ h.lt).trans h.c0, (x.cells s _ h.lt).trans h.c1, h.r0.ext x, h.r1.ext x⟩
def hasS (G O : List Cap) (c : Cap) : Bool := rightC c && (!c.tag || (G.any (grB c) || (O.any (underC c) && slbC O c)))
set_option maxRecDepth 100000 in
set_option maxHeartbeats 4000000 in
theorem chas_ (t : Bool) (b tp a p ty : Int) (s : Nat) (A : Option Addr) (cg : Nat) (G : List Cap) (B : Option Addr) (co : Nat) (O : List Cap) (w : World) (h : ClS w s A cg G B co O) (hg : G.length ≤ 1000000000) (ho : O.length ≤ 1000000000) : Calls Try.prog 13 #[.pointer (some ⟨s, 0, none⟩), .agg #[.bool t, .int .i64 b, .int .i64 tp, .int .i64 a, .int .i64 p, .int .i64 ty]] w fun e w' => e = .returned (.bool (hasS G O ⟨t, b, tp, a, p, ty⟩)) ∧ Ext w w' := by
  have HR : Hid (∀ W, Ext w W → Calls Try.prog 24 #[.agg #[.bool t, .int .i64 b, .int .i64 tp, .int .i64 a, .int .i64 p, .int .i64 ty]] W fun e w' => e = .returned (.bool (rightC ⟨t, b, tp, a, p, ty⟩)) ∧ Ext W w') := hid (fun W hx => capRight t b tp a p ty W)
  have HG : Hid (∀ W, Ext w W → Calls Try.prog 29 #[.pointer (some ⟨s, 0, none⟩), .agg #[.bool t, .int .i64 b, .int .i64 tp, .int .i64 a, .int .i64 p, .int .i64 ty]] W fun e w' => e = .returned (.bool (G.any (grB ⟨t, b, tp, a, p, ty⟩))) ∧ Ext W w') := hid (fun W hx => cgrant_ t b tp a p ty A _ cg G W (h.ext hx).r0 rfl hg s (h.ext hx).lt (h.ext hx).c0)
  have HU : Hid (∀ W, Ext w W → Calls Try.prog 30 #[.agg #[.bool t, .int .i64 b, .int .i64 tp, .int .i64 a, .int .i64 p, .int .i64 ty], .slice B O.length co] W fun e w' => e = .returned (.bool (O.any (underC ⟨t, b, tp, a, p, ty⟩))) ∧ Ext W w') := hid (fun W hx => cunder_ t b tp a p ty B _ co O W (h.ext hx).r1 rfl ho)
  have HS : Hid (∀ W, Ext w W → Calls Try.prog 31 #[.pointer (some ⟨s, 0, none⟩), .agg #[.bool t, .int .i64 b, .int .i64 tp, .int .i64 a, .int .i64 p, .int .i64 ty]] W fun e w' => e = .returned (.bool (slbC O ⟨t, b, tp, a, p, ty⟩)) ∧ Ext W w') := hid (fun W hx => csealable_ t b tp a p ty B _ co O W (h.ext hx).r1 rfl ho s (h.ext hx).lt (h.ext hx).c1)
  obtain ⟨hlt, k0, k1, _, _⟩ := h
  have hv : hasS G O ⟨t, b, tp, a, p, ty⟩ = (rightC ⟨t, b, tp, a, p, ty⟩ && (!t || (G.any (grB ⟨t, b, tp, a, p, ty⟩) || (O.any (underC ⟨t, b, tp, a, p, ty⟩) && slbC O ⟨t, b, tp, a, p, ty⟩)))) := rfl
  generalize slbC O ⟨t, b, tp, a, p, ty⟩ = vs at hv HS
  generalize O.any (underC ⟨t, b, tp, a, p, ty⟩) = vu at hv HU
  generalize G.any (grB ⟨t, b, tp, a, p, ty⟩) = vg at hv HG
  generalize rightC ⟨t, b, tp, a, p, ty⟩ = vr at hv HR
  cases vr with
  | false =>
    replace hv : hasS G O ⟨t, b, tp, a, p, ty⟩ = false := by rw [hv]; rfl
    rw [hv]
    clear hv
    go_enter Try.func13, Try.ntmps13
    go_wp2_with fail
    refine (HR.out _ (by repeat (first | (with_reducible exact Ext.refl _) | (with_reducible refine Ext.undrew ?_) | (with_reducible refine Ext.grow ?_ _) | (with_reducible refine Ext.drew ?_) | (with_reducible refine Ext.drewN ?_ _) | (with_reducible refine Ext.alloc ?_ _) | (with_reducible assumption) | ((with_reducible refine Ext.setCell ?_ ?_ _); rotate_left; (first | exact Nat.le_refl _ | ((try dsimp only); (try simp only [World.size_alloc, grow_size, World.size_setCell]); omega)))))).mono ?_; rintro e W1 ⟨rfl, hy⟩
    obtain ⟨d1, rfl⟩ := hy.grown
    clear hy
    go_wp2
    go_ret
    exact ⟨rfl, (by repeat (first | (with_reducible exact Ext.refl _) | (with_reducible refine Ext.undrew ?_) | (with_reducible refine Ext.grow ?_ _) | (with_reducible refine Ext.drew ?_) | (with_reducible refine Ext.drewN ?_ _) | (with_reducible refine Ext.alloc ?_ _) | (with_reducible assumption) | ((with_reducible refine Ext.setCell ?_ ?_ _); rotate_left; (first | exact Nat.le_refl _ | ((try dsimp only); (try simp only [World.size_alloc, grow_size, World.size_setCell]); omega)))))⟩
  | true =>
    cases t with
    | false =>
      replace hv : hasS G O ⟨false, b, tp, a, p, ty⟩ = true := by rw [hv]; rfl
      rw [hv]
      clear hv
      go_enter Try.func13, Try.ntmps13
      go_wp2_with fail
      refine (HR.out _ (by repeat (first | (with_reducible exact Ext.refl _) | (with_reducible refine Ext.undrew ?_) | (with_reducible refine Ext.grow ?_ _) | (with_reducible refine Ext.drew ?_) | (with_reducible refine Ext.drewN ?_ _) | (with_reducible refine Ext.alloc ?_ _) | (with_reducible assumption) | ((with_reducible refine Ext.setCell ?_ ?_ _); rotate_left; (first | exact Nat.le_refl _ | ((try dsimp only); (try simp only [World.size_alloc, grow_size, World.size_setCell]); omega)))))).mono ?_; rintro e W1 ⟨rfl, hy⟩
      obtain ⟨d1, rfl⟩ := hy.grown
      clear hy
      go_upto_region 3 with fail
      refine wp_region_grow (by kernel_rfl) (by kernel_rfl) (by first | (simp only [List.append]; rfl) | rfl) ?_
      (repeat (go_big_quiet_step (fail)))
      refine wpQuiet_nil ?_
      intro wq hq
      obtain ⟨dq, rfl⟩ := hq
      go_wp2
      go_ret
      exact ⟨rfl, (by repeat (first | (with_reducible exact Ext.refl _) | (with_reducible refine Ext.undrew ?_) | (with_reducible refine Ext.grow ?_ _) | (with_reducible refine Ext.drew ?_) | (with_reducible refine Ext.drewN ?_ _) | (with_reducible refine Ext.alloc ?_ _) | (with_reducible assumption) | ((with_reducible refine Ext.setCell ?_ ?_ _); rotate_left; (first | exact Nat.le_refl _ | ((try dsimp only); (try simp only [World.size_alloc, grow_size, World.size_setCell]); omega)))))⟩
    | true =>
      cases vg with
      | true =>
        replace hv : hasS G O ⟨true, b, tp, a, p, ty⟩ = true := by rw [hv]; rfl
        rw [hv]
        clear hv
        go_enter Try.func13, Try.ntmps13
        go_wp2_with fail
        refine (HR.out _ (by repeat (first | (with_reducible exact Ext.refl _) | (with_reducible refine Ext.undrew ?_) | (with_reducible refine Ext.grow ?_ _) | (with_reducible refine Ext.drew ?_) | (with_reducible refine Ext.drewN ?_ _) | (with_reducible refine Ext.alloc ?_ _) | (with_reducible assumption) | ((with_reducible refine Ext.setCell ?_ ?_ _); rotate_left; (first | exact Nat.le_refl _ | ((try dsimp only); (try simp only [World.size_alloc, grow_size, World.size_setCell]); omega)))))).mono ?_; rintro e W1 ⟨rfl, hy⟩
        obtain ⟨d1, rfl⟩ := hy.grown
        clear hy
        go_upto_region 3 with fail
        refine wp_region_grow (by kernel_rfl) (by kernel_rfl) (by first | (simp only [List.append]; rfl) | rfl) ?_
        (repeat (go_big_quiet_step ((go_at_call 29; exact growOf (HG.out _ (by repeat (first | (with_reducible exact Ext.refl _) | (with_reducible refine Ext.undrew ?_) | (with_reducible refine Ext.grow ?_ _) | (with_reducible refine Ext.drew ?_) | (with_reducible refine Ext.drewN ?_ _) | (with_reducible refine Ext.alloc ?_ _) | (with_reducible assumption) | ((with_reducible refine Ext.setCell ?_ ?_ _); rotate_left; (first | exact Nat.le_refl _ | ((try dsimp only); (try simp only [World.size_alloc, grow_size, World.size_setCell]); omega))))))))))
        refine wpQuiet_nil ?_
        intro wq hq
        obtain ⟨dq, rfl⟩ := hq
        go_wp2
        go_ret
        exact ⟨rfl, (by repeat (first | (with_reducible exact Ext.refl _) | (with_reducible refine Ext.undrew ?_) | (with_reducible refine Ext.grow ?_ _) | (with_reducible refine Ext.drew ?_) | (with_reducible refine Ext.drewN ?_ _) | (with_reducible refine Ext.alloc ?_ _) | (with_reducible assumption) | ((with_reducible refine Ext.setCell ?_ ?_ _); rotate_left; (first | exact Nat.le_refl _ | ((try dsimp only); (try simp only [World.size_alloc, grow_size, World.size_setCell]); omega)))))⟩
      | false =>
        cases vu with
        | false =>
          replace hv : hasS G O ⟨true, b, tp, a, p, ty⟩ = false := by rw [hv]; rfl
          rw [hv]
          clear hv
          go_enter Try.func13, Try.ntmps13
          go_wp2_with fail
          refine (HR.out _ (by repeat (first | (with_reducible exact Ext.refl _) | (with_reducible refine Ext.undrew ?_) | (with_reducible refine Ext.grow ?_ _) | (with_reducible refine Ext.drew ?_) | (with_reducible refine Ext.drewN ?_ _) | (with_reducible refine Ext.alloc ?_ _) | (with_reducible assumption) | ((with_reducible refine Ext.setCell ?_ ?_ _); rotate_left; (first | exact Nat.le_refl _ | ((try dsimp only); (try simp only [World.size_alloc, grow_size, World.size_setCell]); omega)))))).mono ?_; rintro e W1 ⟨rfl, hy⟩
          obtain ⟨d1, rfl⟩ := hy.grown
          clear hy
          go_upto_region 3 with fail
          refine wp_region_grow (by kernel_rfl) (by kernel_rfl) (by first | (simp only [List.append]; rfl) | rfl) ?_
          (repeat (go_big_quiet_step ((first | (go_at_call 29; exact growOf (HG.out _ (by repeat (first | (with_reducible exact Ext.refl _) | (with_reducible refine Ext.undrew ?_) | (with_reducible refine Ext.grow ?_ _) | (with_reducible refine Ext.drew ?_) | (with_reducible refine Ext.drewN ?_ _) | (with_reducible refine Ext.alloc ?_ _) | (with_reducible assumption) | ((with_reducible refine Ext.setCell ?_ ?_ _); rotate_left; (first | exact Nat.le_refl _ | ((try dsimp only); (try simp only [World.size_alloc, grow_size, World.size_setCell]); omega))))))) | (go_at_call 30; exact growOf (HU.out _ (by repeat (first | (with_reducible exact Ext.refl _) | (with_reducible refine Ext.undrew ?_) | (with_reducible refine Ext.grow ?_ _) | (with_reducible refine Ext.drew ?_) | (with_reducible refine Ext.drewN ?_ _) | (with_reducible refine Ext.alloc ?_ _) | (with_reducible assumption) | ((with_reducible refine Ext.setCell ?_ ?_ _); rotate_left; (first | exact Nat.le_refl _ | ((try dsimp only); (try simp only [World.size_alloc, grow_size, World.size_setCell]); omega)))))))))))
          refine wpQuiet_nil ?_
          intro wq hq
          obtain ⟨dq, rfl⟩ := hq
          go_wp2
          go_ret
          exact ⟨rfl, (by repeat (first | (with_reducible exact Ext.refl _) | (with_reducible refine Ext.undrew ?_) | (with_reducible refine Ext.grow ?_ _) | (with_reducible refine Ext.drew ?_) | (with_reducible refine Ext.drewN ?_ _) | (with_reducible refine Ext.alloc ?_ _) | (with_reducible assumption) | ((with_reducible refine Ext.setCell ?_ ?_ _); rotate_left; (first | exact Nat.le_refl _ | ((try dsimp only); (try simp only [World.size_alloc, grow_size, World.size_setCell]); omega)))))⟩
        | true =>
          replace hv : hasS G O ⟨true, b, tp, a, p, ty⟩ = vs := by rw [hv]; cases vs <;> rfl
          rw [hv]
          clear hv
          go_enter Try.func13, Try.ntmps13
          go_wp2_with fail
          refine (HR.out _ (by repeat (first | (with_reducible exact Ext.refl _) | (with_reducible refine Ext.undrew ?_) | (with_reducible refine Ext.grow ?_ _) | (with_reducible refine Ext.drew ?_) | (with_reducible refine Ext.drewN ?_ _) | (with_reducible refine Ext.alloc ?_ _) | (with_reducible assumption) | ((with_reducible refine Ext.setCell ?_ ?_ _); rotate_left; (first | exact Nat.le_refl _ | ((try dsimp only); (try simp only [World.size_alloc, grow_size, World.size_setCell]); omega)))))).mono ?_; rintro e W1 ⟨rfl, hy⟩
          obtain ⟨d1, rfl⟩ := hy.grown
          clear hy
          go_upto_region 3 with fail
          refine wp_region_grow (by kernel_rfl) (by kernel_rfl) (by first | (simp only [List.append]; rfl) | rfl) ?_
          (repeat (go_big_quiet_step ((first | (go_at_call 29; exact growOf (HG.out _ (by repeat (first | (with_reducible exact Ext.refl _) | (with_reducible refine Ext.undrew ?_) | (with_reducible refine Ext.grow ?_ _) | (with_reducible refine Ext.drew ?_) | (with_reducible refine Ext.drewN ?_ _) | (with_reducible refine Ext.alloc ?_ _) | (with_reducible assumption) | ((with_reducible refine Ext.setCell ?_ ?_ _); rotate_left; (first | exact Nat.le_refl _ | ((try dsimp only); (try simp only [World.size_alloc, grow_size, World.size_setCell]); omega))))))) | (go_at_call 30; exact growOf (HU.out _ (by repeat (first | (with_reducible exact Ext.refl _) | (with_reducible refine Ext.undrew ?_) | (with_reducible refine Ext.grow ?_ _) | (with_reducible refine Ext.drew ?_) | (with_reducible refine Ext.drewN ?_ _) | (with_reducible refine Ext.alloc ?_ _) | (with_reducible assumption) | ((with_reducible refine Ext.setCell ?_ ?_ _); rotate_left; (first | exact Nat.le_refl _ | ((try dsimp only); (try simp only [World.size_alloc, grow_size, World.size_setCell]); omega))))))) | (go_at_call 31; exact growOf (HS.out _ (by repeat (first | (with_reducible exact Ext.refl _) | (with_reducible refine Ext.undrew ?_) | (with_reducible refine Ext.grow ?_ _) | (with_reducible refine Ext.drew ?_) | (with_reducible refine Ext.drewN ?_ _) | (with_reducible refine Ext.alloc ?_ _) | (with_reducible assumption) | ((with_reducible refine Ext.setCell ?_ ?_ _); rotate_left; (first | exact Nat.le_refl _ | ((try dsimp only); (try simp only [World.size_alloc, grow_size, World.size_setCell]); omega)))))))))))
          refine wpQuiet_nil ?_
          intro wq hq
          obtain ⟨dq, rfl⟩ := hq
          go_wp2
          go_ret
          exact ⟨rfl, (by repeat (first | (with_reducible exact Ext.refl _) | (with_reducible refine Ext.undrew ?_) | (with_reducible refine Ext.grow ?_ _) | (with_reducible refine Ext.drew ?_) | (with_reducible refine Ext.drewN ?_ _) | (with_reducible refine Ext.alloc ?_ _) | (with_reducible assumption) | ((with_reducible refine Ext.setCell ?_ ?_ _); rotate_left; (first | exact Nat.le_refl _ | ((try dsimp only); (try simp only [World.size_alloc, grow_size, World.size_setCell]); omega)))))⟩

end Go.Proofs.Ytlapemeoffpmgaa
