/- The statement on SweepAll: for every input the law's Go text answers true, and turns nothing that was there. -/
import Derived.Test.YthamfkbopjagdaaMBase
import Derived.Test.YthamfkbopjagdaaWSweepAll
namespace Go.Proofs.Ythamfkbopjagdaa.sweepAll
set_option linter.unusedSimpArgs false
set_option linter.unusedVariables false
open Go.ChangeShapes Go.WideShapes Go.ChangeAt Go.RowKit Go.Deep Go.Proofs.Ythamfkbopjagdaa
open Go.ChangeMaps (open_string shut_string)

set_option maxRecDepth 100000 in
theorem lifted (os : Os) (started : os.Started) (H : Type) (enc : TypeId × Value → H) :
    ReturnsInHanded {} Try.checked os 4 .any (Rows.sweepAllSpec.pre6 enc Try.prog Try.f4 Rows.sweepAllRow.domain false) (Rows.sweepAllSpec.post enc Try.prog Try.f4 false true false false) := by
  refine returnsInHanded_of_change (C := Try.checked) lawOwn started (by kernel_rfl) Try.func4
    (ChangeSpec.witness6 (enc := enc) (C := Try.checked) false ⟨#[], #[.slice none 0 0, .slice none 0 0, .slice none 0 0, .slice none 0 0], []⟩ 8 (by kernel_rfl) (by kernel_rfl) (by kernel_rfl) (by kernel_rfl)) ?_
  intro W base args ds gs before hval0 hW hcnd _
  have hval : ∀ (j : Nat) t v, Try.f4.params[j]? = some t → args[j]? = some v → Value.okWide Try.prog W .any base t v := hval0
  have hW' := hW
  have hlt : ∀ x ∈ before, x.block < W.heap.size := fun x hx => hW.lt x hx
  obtain ⟨p, q, hA0, hV, rfl, hfz, hnd⟩ := hW
  have hA : DataW.TrodAll enc Try.prog W 0 (fun _ => true) true Try.f4.params.toList args.toList ds p := hA0
  rw [Try.params4] at hA hval
  obtain ⟨v0, vs0, d0, ds0, p0, q0, hargs, rfl, rfl, h0, r0⟩ := trodAll_cons hA
  obtain ⟨v1, vs1, d1, ds1, p1, q1, rfl, rfl, rfl, h1, r1⟩ := trodAll_cons r0
  obtain ⟨v2, vs2, d2, ds2, p2, q2, rfl, rfl, rfl, h2, r2⟩ := trodAll_cons r1
  obtain ⟨v3, vs3, d3, ds3, p3, q3, rfl, rfl, rfl, h3, r3⟩ := trodAll_cons r2
  obtain ⟨rfl, rfl, rfl⟩ := trodAll_nil r3
  obtain rfl : args = #[v0, v1, v2, v3] := by cases args; simp_all
  obtain ⟨rfl, rfl⟩ := trodVars_none hV
  have k0 := h0
  obtain ⟨A0, cap0, zs0, rfl, wc0, wm0, hs0, wz0⟩ := trodArgSlice (α := TOp) (n := 10) TOp.cells (TOp.good W) Try.underlying56 (by kernel_rfl) (by omega) (fun m cs x hx => trodTOp hx) (hval 0 56 v0 rfl rfl) h0
  have wl0 : zs0.length ≤ maxLen := Nat.le_trans wc0 wm0
  have k1 := h1
  obtain ⟨A1, cap1, ps1, rfl, wc1, wm1, hs1, wz1⟩ := trodArgSlice (α := SOp) (n := 3) SOp.cells wfS Try.underlying57 (by kernel_rfl) (by omega) (fun m cs x hx => trodOp hx) (hval 1 57 v1 rfl rfl) h1
  have wl1 : ps1.length ≤ maxLen := Nat.le_trans wc1 wm1
  have k2 := h2
  obtain ⟨A2, cap2, zs2, rfl, wc2, wm2, hs2, wz2⟩ := trodArgSlice (α := TOp) (n := 10) TOp.cells (TOp.good W) Try.underlying56 (by kernel_rfl) (by omega) (fun m cs x hx => trodTOp hx) (hval 2 56 v2 rfl rfl) h2
  have wl2 : zs2.length ≤ maxLen := Nat.le_trans wc2 wm2
  have k3 := h3
  obtain ⟨A3, cap3, bl3, rfl, wc3, wm3, hs3, wz3, wn3⟩ := openBytes (hval 3 39 v3 rfl rfl) h3
  have wl3 : bl3.length ≤ cap3 ∧ cap3 ≤ maxLen := ⟨wc3, wm3⟩
  refine (walk A0 cap0 zs0 A1 cap1 ps1 A2 cap2 zs2 A3 cap3 bl3 W wl0 hs0 wz0 wl1 hs1 wz1 wl2 hs2 wz2 wl3 hs3 wz3 wn3).mono fun e W' ⟨h, he⟩ => ?_
  subst h
  refine ⟨_, rfl, ?_⟩
  refine lawPost (tb := 4) rfl hW' rfl rfl rfl rfl Try.underlying4 ?_ he
  have hK := (trodAll_cons_mk (lawKept lawLaid (by kernel_rfl) (of_decide_eq_true (by kernel_rfl)) hlt (by intro x hx; simp [hx]) k0 he) (trodAll_cons_mk (lawKept lawLaid (by kernel_rfl) (of_decide_eq_true (by kernel_rfl)) hlt (by intro x hx; simp [hx]) k1 he) (trodAll_cons_mk (lawKept lawLaid (by kernel_rfl) (of_decide_eq_true (by kernel_rfl)) hlt (by intro x hx; simp [hx]) k2 he) (trodAll_cons_mk (lawKept lawLaid (by kernel_rfl) (of_decide_eq_true (by kernel_rfl)) hlt (by intro x hx; simp [hx]) k3 he) trodAll_mk0))))
  simp only [List.append_nil] at hK ⊢
  exact hK

theorem over : Rows.sweepAllRow.holds Try.pinned (OpenSpec.ofChange Rows.sweepAllSpec) :=
  OpenClaim.holds_of_wide 4 Try.f4 rfl rfl rfl rfl rfl rfl rfl ⟨rfl, rfl, rfl, rfl, rfl⟩ rfl rfl rfl rfl rfl (by kernel_rfl) Try.func4 (by kernel_rfl)
    (of_decide_eq_true (by kernel_rfl)) (by unfold Func.isWrapper; rw [if_neg (of_decide_eq_false (by kernel_rfl))]; exact ⟨rfl, rfl⟩)
    (fun os started H enc _ => lifted os started H enc)

theorem proved : Rows.SweepAllSaid :=
  over
end Go.Proofs.Ythamfkbopjagdaa.sweepAll
