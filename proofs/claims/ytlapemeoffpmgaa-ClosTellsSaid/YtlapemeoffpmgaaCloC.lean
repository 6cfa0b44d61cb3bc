/- Layer 6: underOne, granted, sealable. -/
import Derived.Test.YtlapemeoffpmgaaCloB
namespace Go.Proofs.Ytlapemeoffpmgaa
set_option linter.unusedSimpArgs false
set_option linter.unusedVariables false
open Go.RowKit

/-- Is a grant one but for where it stands? -/
def grB (c g : Cap) : Bool := decide ((⟨g.tag, g.base, g.top, c.at_, g.perms, g.type⟩ : Cap) = c)
theorem grB_eq (c g : Cap) : grB c g = (g.tag == c.tag && g.base == c.base && g.top == c.top && g.perms == c.perms && g.type == c.type) := by
  obtain ⟨t, b, tp, a, p, ty⟩ := c
  rw [Bool.eq_iff_iff]
  simp only [grB, Cap.mk.injEq, true_and, decide_eq_true_eq, Bool.and_eq_true, beq_iff_eq]
  constructor
  · rintro ⟨h1, h2, h3, h4, h5⟩; exact ⟨⟨⟨⟨h1, h2⟩, h3⟩, h4⟩, h5⟩
  · rintro ⟨⟨⟨⟨h1, h2⟩, h3⟩, h4⟩, h5⟩; exact ⟨h1, h2, h3, h4, h5⟩
set_option maxRecDepth 100000 in
set_option maxHeartbeats 4000000 in
theorem cunder1_ (t : Bool) (b tp a p ty : Int) (d : Cap) (g : Nat) (w : World) (hg : g < w.heap.size) (hc : w.cell? ⟨g, 0, none⟩ = some (.bool t) ∧ w.cell? ⟨g, 1, none⟩ = some (.int .i64 b) ∧ w.cell? ⟨g, 2, none⟩ = some (.int .i64 tp) ∧ w.cell? ⟨g, 3, none⟩ = some (.int .i64 a) ∧ w.cell? ⟨g, 4, none⟩ = some (.int .i64 p) ∧ w.cell? ⟨g, 5, none⟩ = some (.int .i64 ty)) : Calls Try.prog 61 #[.agg #[.bool d.tag, .int .i64 d.base, .int .i64 d.top, .int .i64 d.at_, .int .i64 d.perms, .int .i64 d.type], .pointer (some ⟨g, 0, none⟩)] w fun e w' => e = .returned (.bool (underC ⟨t, b, tp, a, p, ty⟩ d)) ∧ Ext w w' := by
  obtain ⟨k0, k1, k2, k3, k4, k5⟩ := hc
  show Calls _ _ _ _ fun e w' => e = .returned (.bool (underC ⟨t, b, tp, a, p, ty⟩ ⟨d.tag, d.base, d.top, d.at_, d.perms, d.type⟩)) ∧ Ext w w'
  go_enter Try.func61, Try.ntmps61
  go_wp2_with fail
  refine (capUnder _ _ _ _ _ _ _ _ _ _ _ _ _).mono ?_; rintro e W1 ⟨rfl, hy⟩
  go_wp2
  go_ret
  exact ⟨rfl, ((Ext.refl _).alloc _).trans hy⟩
set_option maxRecDepth 100000 in
set_option maxHeartbeats 4000000 in
theorem cseal1_ (t : Bool) (b tp a p ty : Int) (d : Cap) (g : Nat) (w : World) (hg : g < w.heap.size) (hc : w.cell? ⟨g, 0, none⟩ = some (.bool t) ∧ w.cell? ⟨g, 1, none⟩ = some (.int .i64 b) ∧ w.cell? ⟨g, 2, none⟩ = some (.int .i64 tp) ∧ w.cell? ⟨g, 3, none⟩ = some (.int .i64 a) ∧ w.cell? ⟨g, 4, none⟩ = some (.int .i64 p) ∧ w.cell? ⟨g, 5, none⟩ = some (.int .i64 ty)) : Calls Try.prog 64 #[.agg #[.bool d.tag, .int .i64 d.base, .int .i64 d.top, .int .i64 d.at_, .int .i64 d.perms, .int .i64 d.type], .pointer (some ⟨g, 0, none⟩)] w fun e w' => e = .returned (.bool (authC d 32 ty)) ∧ Ext w w' := by
  obtain ⟨k0, k1, k2, k3, k4, k5⟩ := hc
  show Calls _ _ _ _ fun e w' => e = .returned (.bool (authC ⟨d.tag, d.base, d.top, d.at_, d.perms, d.type⟩ 32 ty)) ∧ Ext w w'
  go_enter Try.func64, Try.ntmps64
  go_wp2_with fail
  refine (cauth_ _ _ _ _ _ _ _ _ _).mono ?_; rintro e W1 ⟨rfl, hy⟩
  go_wp2
  go_ret
  exact ⟨rfl, ((Ext.refl _).alloc _).trans hy⟩
set_option maxRecDepth 100000 in
set_option maxHeartbeats 4000000 in
theorem cgrant1_ (t : Bool) (b tp a p ty : Int) (d : Cap) (g : Nat) (w : World) (hg : g < w.heap.size) (hc : w.cell? ⟨g, 0, none⟩ = some (.bool t) ∧ w.cell? ⟨g, 1, none⟩ = some (.int .i64 b) ∧ w.cell? ⟨g, 2, none⟩ = some (.int .i64 tp) ∧ w.cell? ⟨g, 3, none⟩ = some (.int .i64 a) ∧ w.cell? ⟨g, 4, none⟩ = some (.int .i64 p) ∧ w.cell? ⟨g, 5, none⟩ = some (.int .i64 ty)) : Calls Try.prog 60 #[.agg #[.bool d.tag, .int .i64 d.base, .int .i64 d.top, .int .i64 d.at_, .int .i64 d.perms, .int .i64 d.type], .pointer (some ⟨g, 0, none⟩)] w fun e w' => e = .returned (.bool (grB ⟨t, b, tp, a, p, ty⟩ d)) ∧ Ext w w' := by
  obtain ⟨k0, k1, k2, k3, k4, k5⟩ := hc
  rw [grB_eq]
  go_enter Try.func60, Try.ntmps60
  go_wp2
  all_goals go_ret
  all_goals refine ⟨?_, (by repeat (first | (with_reducible exact Ext.refl _) | (with_reducible refine Ext.undrew ?_) | (with_reducible refine Ext.grow ?_ _) | (with_reducible refine Ext.drew ?_) | (with_reducible refine Ext.drewN ?_ _) | (with_reducible refine Ext.alloc ?_ _) | (with_reducible assumption) | ((with_reducible refine Ext.setCell ?_ ?_ _); rotate_left; (first | exact Nat.le_refl _ | ((try dsimp only); (try simp only [World.size_alloc, grow_size, World.size_setCell]); omega)))))⟩
  all_goals (subst_vars; simp [*])
set_option maxRecDepth 100000 in
set_option maxHeartbeats 4000000 in
theorem cunder_ (t : Bool) (b tp a p ty : Int) (A : Option Addr) (n ca : Nat) (O : List Cap) (w : World) (hA : RdF Cap.cells w A O) (hn : O.length = n) (hb : n ≤ 1000000000) : Calls Try.prog 30 #[.agg #[.bool t, .int .i64 b, .int .i64 tp, .int .i64 a, .int .i64 p, .int .i64 ty], .slice A n ca] w fun e w' => e = .returned (.bool (O.any (underC ⟨t, b, tp, a, p, ty⟩))) ∧ Ext w w' := by
  have HB := hid (fun (W : World) (hx : Ext (w.alloc (.cells #[.bool t, .int .i64 b, .int .i64 tp, .int .i64 a, .int .i64 p, .int .i64 ty] 24)) W) => show w.heap.size < W.heap.size ∧ W.cell? ⟨w.heap.size, 0, none⟩ = some (.bool t) ∧ W.cell? ⟨w.heap.size, 1, none⟩ = some (.int .i64 b) ∧ W.cell? ⟨w.heap.size, 2, none⟩ = some (.int .i64 tp) ∧ W.cell? ⟨w.heap.size, 3, none⟩ = some (.int .i64 a) ∧ W.cell? ⟨w.heap.size, 4, none⟩ = some (.int .i64 p) ∧ W.cell? ⟨w.heap.size, 5, none⟩ = some (.int .i64 ty) from (by obtain ⟨h0, h1, h2, h3, h4, h5, h6⟩ := Row.six (c := ⟨t, b, tp, a, p, ty⟩) ((Row.new w #[.bool t, .int .i64 b, .int .i64 tp, .int .i64 a, .int .i64 p, .int .i64 ty] 24).ext hx); exact ⟨h0, by simpa using h1, by simpa using h2, by simpa using h3, by simpa using h4, by simpa using h5, by simpa using h6⟩))
  have HK : Hid (∀ W, Ext (w.alloc (.cells #[.bool t, .int .i64 b, .int .i64 tp, .int .i64 a, .int .i64 p, .int .i64 ty] 24)) W → Calls Try.prog 59 #[.slice A n ca, .func (.func 61) #[] #[.pointer (some ⟨w.heap.size, 0, none⟩)]] W fun e w' => e = .returned (.bool (O.any (underC ⟨t, b, tp, a, p, ty⟩))) ∧ Ext W w') := hid (fun W hx => containsC_ _ _ _ A n ca O W (hA.ext (((Ext.refl _).alloc _).trans hx)) hn hb (fun args w' => enterOf Try.func61 (by kernel_rfl) (by kernel_rfl) _ _) (fun d W2 hx2 => cunder1_ t b tp a p ty d w.heap.size W2 (HB.out W2 (hx.trans hx2)).1 (HB.out W2 (hx.trans hx2)).2))
  clear hA HB
  go_enter Try.func30, Try.ntmps30
  go_wp2_with fail
  refine (HK.out _ (Ext.refl _)).mono ?_; rintro e W1 ⟨rfl, hy⟩
  go_wp2
  go_ret
  exact ⟨rfl, ((Ext.refl _).alloc _).trans hy⟩
set_option maxRecDepth 100000 in
set_option maxHeartbeats 4000000 in
theorem cgrant_ (t : Bool) (b tp a p ty : Int) (A : Option Addr) (n ca : Nat) (O : List Cap) (w : World) (hA : RdF Cap.cells w A O) (hn : O.length = n) (hb : n ≤ 1000000000) (s : Nat) (hs : s < w.heap.size) (h0 : w.cell? ⟨s, 0, none⟩ = some (.slice A n ca)) : Calls Try.prog 29 #[.pointer (some ⟨s, 0, none⟩), .agg #[.bool t, .int .i64 b, .int .i64 tp, .int .i64 a, .int .i64 p, .int .i64 ty]] w fun e w' => e = .returned (.bool (O.any (grB ⟨t, b, tp, a, p, ty⟩))) ∧ Ext w w' := by
  have HB := hid (fun (W : World) (hx : Ext (w.alloc (.cells #[.bool t, .int .i64 b, .int .i64 tp, .int .i64 a, .int .i64 p, .int .i64 ty] 24)) W) => show w.heap.size < W.heap.size ∧ W.cell? ⟨w.heap.size, 0, none⟩ = some (.bool t) ∧ W.cell? ⟨w.heap.size, 1, none⟩ = some (.int .i64 b) ∧ W.cell? ⟨w.heap.size, 2, none⟩ = some (.int .i64 tp) ∧ W.cell? ⟨w.heap.size, 3, none⟩ = some (.int .i64 a) ∧ W.cell? ⟨w.heap.size, 4, none⟩ = some (.int .i64 p) ∧ W.cell? ⟨w.heap.size, 5, none⟩ = some (.int .i64 ty) from (by obtain ⟨h0, h1, h2, h3, h4, h5, h6⟩ := Row.six (c := ⟨t, b, tp, a, p, ty⟩) ((Row.new w #[.bool t, .int .i64 b, .int .i64 tp, .int .i64 a, .int .i64 p, .int .i64 ty] 24).ext hx); exact ⟨h0, by simpa using h1, by simpa using h2, by simpa using h3, by simpa using h4, by simpa using h5, by simpa using h6⟩))
  have HK : Hid (∀ W, Ext (w.alloc (.cells #[.bool t, .int .i64 b, .int .i64 tp, .int .i64 a, .int .i64 p, .int .i64 ty] 24)) W → Calls Try.prog 59 #[.slice A n ca, .func (.func 60) #[] #[.pointer (some ⟨w.heap.size, 0, none⟩)]] W fun e w' => e = .returned (.bool (O.any (grB ⟨t, b, tp, a, p, ty⟩))) ∧ Ext W w') := hid (fun W hx => containsC_ _ _ _ A n ca O W (hA.ext (((Ext.refl _).alloc _).trans hx)) hn hb (fun args w' => enterOf Try.func60 (by kernel_rfl) (by kernel_rfl) _ _) (fun d W2 hx2 => cgrant1_ t b tp a p ty d w.heap.size W2 (HB.out W2 (hx.trans hx2)).1 (HB.out W2 (hx.trans hx2)).2))
  clear hA HB
  go_enter Try.func29, Try.ntmps29
  go_wp2_with fail
  refine (HK.out _ (Ext.refl _)).mono ?_; rintro e W1 ⟨rfl, hy⟩
  go_wp2
  go_ret
  exact ⟨rfl, ((Ext.refl _).alloc _).trans hy⟩
/-- Could one that is open be sealed as one is? -/
def slbC (O : List Cap) (c : Cap) : Bool := if c.type = 0 then true else if c.type = 1 then hasB c.perms 4 else O.any fun d => authC d 32 c.type
set_option maxRecDepth 100000 in
set_option maxHeartbeats 4000000 in
theorem csealable_ (t : Bool) (b tp a p ty : Int) (A : Option Addr) (n ca : Nat) (O : List Cap) (w : World) (hA : RdF Cap.cells w A O) (hn : O.length = n) (hb : n ≤ 1000000000) (s : Nat) (hs : s < w.heap.size) (h0 : w.cell? ⟨s, 1, none⟩ = some (.slice A n ca)) : Calls Try.prog 31 #[.pointer (some ⟨s, 0, none⟩), .agg #[.bool t, .int .i64 b, .int .i64 tp, .int .i64 a, .int .i64 p, .int .i64 ty]] w fun e w' => e = .returned (.bool (slbC O ⟨t, b, tp, a, p, ty⟩)) ∧ Ext w w' := by
  by_cases e0 : ty = 0
  · subst e0
    go_enter Try.func31, Try.ntmps31
    go_wp2
    go_ret
    exact ⟨rfl, (by repeat (first | (with_reducible exact Ext.refl _) | (with_reducible refine Ext.undrew ?_) | (with_reducible refine Ext.grow ?_ _) | (with_reducible refine Ext.drew ?_) | (with_reducible refine Ext.drewN ?_ _) | (with_reducible refine Ext.alloc ?_ _) | (with_reducible assumption) | ((with_reducible refine Ext.setCell ?_ ?_ _); rotate_left; (first | exact Nat.le_refl _ | ((try dsimp only); (try simp only [World.size_alloc, grow_size, World.size_setCell]); omega)))))⟩
  · by_cases e1 : ty = 1
    · subst e1
      go_enter Try.func31, Try.ntmps31
      go_wp2_with fail
      refine (has _ _ _).mono ?_; rintro e w1 ⟨rfl, rfl⟩
      go_wp2
      go_ret
      exact ⟨rfl, (by repeat (first | (with_reducible exact Ext.refl _) | (with_reducible refine Ext.undrew ?_) | (with_reducible refine Ext.grow ?_ _) | (with_reducible refine Ext.drew ?_) | (with_reducible refine Ext.drewN ?_ _) | (with_reducible refine Ext.alloc ?_ _) | (with_reducible assumption) | ((with_reducible refine Ext.setCell ?_ ?_ _); rotate_left; (first | exact Nat.le_refl _ | ((try dsimp only); (try simp only [World.size_alloc, grow_size, World.size_setCell]); omega)))))⟩
    · have ev : slbC O ⟨t, b, tp, a, p, ty⟩ = O.any fun d => authC d 32 ty := by unfold slbC; rw [if_neg e0, if_neg e1]
      rw [ev]
      clear ev
      have HB := hid (fun (W : World) (hx : Ext (w.alloc (.cells #[.bool t, .int .i64 b, .int .i64 tp, .int .i64 a, .int .i64 p, .int .i64 ty] 24)) W) => show w.heap.size < W.heap.size ∧ W.cell? ⟨w.heap.size, 0, none⟩ = some (.bool t) ∧ W.cell? ⟨w.heap.size, 1, none⟩ = some (.int .i64 b) ∧ W.cell? ⟨w.heap.size, 2, none⟩ = some (.int .i64 tp) ∧ W.cell? ⟨w.heap.size, 3, none⟩ = some (.int .i64 a) ∧ W.cell? ⟨w.heap.size, 4, none⟩ = some (.int .i64 p) ∧ W.cell? ⟨w.heap.size, 5, none⟩ = some (.int .i64 ty) from (by obtain ⟨h0, h1, h2, h3, h4, h5, h6⟩ := Row.six (c := ⟨t, b, tp, a, p, ty⟩) ((Row.new w #[.bool t, .int .i64 b, .int .i64 tp, .int .i64 a, .int .i64 p, .int .i64 ty] 24).ext hx); exact ⟨h0, by simpa using h1, by simpa using h2, by simpa using h3, by simpa using h4, by simpa using h5, by simpa using h6⟩))
      have HK : Hid (∀ W, Ext (w.alloc (.cells #[.bool t, .int .i64 b, .int .i64 tp, .int .i64 a, .int .i64 p, .int .i64 ty] 24)) W → Calls Try.prog 59 #[.slice A n ca, .func (.func 64) #[] #[.pointer (some ⟨w.heap.size, 0, none⟩)]] W fun e w' => e = .returned (.bool (O.any (fun d => authC d 32 ty))) ∧ Ext W w') := hid (fun W hx => containsC_ _ _ _ A n ca O W (hA.ext (((Ext.refl _).alloc _).trans hx)) hn hb (fun args w' => enterOf Try.func64 (by kernel_rfl) (by kernel_rfl) _ _) (fun d W2 hx2 => cseal1_ t b tp a p ty d w.heap.size W2 (HB.out W2 (hx.trans hx2)).1 (HB.out W2 (hx.trans hx2)).2))
      clear hA HB
      go_enter Try.func31, Try.ntmps31
      go_wp2_with fail
      refine (HK.out _ (Ext.refl _)).mono ?_; rintro e W1 ⟨rfl, hy⟩
      go_wp2
      go_ret
      exact ⟨rfl, ((Ext.refl _).alloc _).trans hy⟩

end Go.Proofs.Ytlapemeoffpmgaa
