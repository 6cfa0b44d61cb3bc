/- The statement on DeriveWrong: for every input the law's Go text answers true, and turns nothing that was there. -/
import Derived.Test.YtnakimlicedogaaLaw
import Derived.Test.YtnakimlicedogaaWDeriveWrong
namespace Go.Proofs.Ytnakimlicedogaa.deriveWrong
set_option linter.unusedSimpArgs false
set_option linter.unusedVariables false
open Go.ChangeShapes Go.WideShapes Go.ChangeAt Go.RowKit Go.Deep Go.Proofs.Ytnakimlicedogaa
open Go.ChangeMaps (open_string shut_string)

set_option maxRecDepth 100000 in
theorem lifted (os : Os) (started : os.Started) (H : Type) (enc : TypeId × Value → H) :
    ReturnsInHanded {} Try.checked os 8 .any (Rows.deriveWrongSpec.pre6 enc Try.prog Try.f8 Rows.deriveWrongRow.domain false) (Rows.deriveWrongSpec.post enc Try.prog Try.f8 false true false false) := by
  refine returnsInHanded_of_change (C := Try.checked) lawOwn started (by kernel_rfl) Try.func8
    (ChangeSpec.witness6 (enc := enc) (C := Try.checked) false ⟨#[], #[.agg #[.bool false, .int .i64 0, .int .i64 0, .int .i64 0, .int .i64 0, .int .i64 0], .agg #[.bool false, .int .i64 0, .int .i64 0, .int .i64 0, .int .i64 0, .int .i64 0], .int .i64 0], []⟩ 8 (by kernel_rfl) (by kernel_rfl) (by kernel_rfl) (by kernel_rfl)) ?_
  intro W base args ds gs before hval0 hW hcnd _
  have hval : ∀ (j : Nat) t v, Try.f8.params[j]? = some t → args[j]? = some v → Value.okWide Try.prog W .any base t v := hval0
  have hW' := hW
  have hlt : ∀ x ∈ before, x.block < W.heap.size := fun x hx => hW.lt x hx
  obtain ⟨p, q, hA0, hV, rfl, hfz, hnd⟩ := hW
  have hA : DataW.TrodAll enc Try.prog W 0 (fun _ => true) true Try.f8.params.toList args.toList ds p := hA0
  rw [Try.params8] at hA hval
  obtain ⟨v0, vs0, d0, ds0, p0, q0, hargs, rfl, rfl, h0, r0⟩ := trodAll_cons hA
  obtain ⟨v1, vs1, d1, ds1, p1, q1, rfl, rfl, rfl, h1, r1⟩ := trodAll_cons r0
  obtain ⟨v2, vs2, d2, ds2, p2, q2, rfl, rfl, rfl, h2, r2⟩ := trodAll_cons r1
  obtain ⟨rfl, rfl, rfl⟩ := trodAll_nil r2
  obtain rfl : args = #[v0, v1, v2] := by cases args; simp_all
  obtain ⟨rfl, rfl⟩ := trodVars_none hV
  have k0 := h0
  obtain ⟨t0, b0, tp0, at0, pm0, ty0, rfl, wb0, wtp0, wat0, wpm0, wty0⟩ := openCap Try.underlying23 (by kernel_rfl) (by kernel_rfl) Try.underlying4 Try.underlying3 Try.underlying3 Try.underlying3 Try.underlying3 Try.underlying3 (hval 0 23 v0 rfl rfl) h0
  have k1 := h1
  obtain ⟨t1, b1, tp1, at1, pm1, ty1, rfl, wb1, wtp1, wat1, wpm1, wty1⟩ := openCap Try.underlying23 (by kernel_rfl) (by kernel_rfl) Try.underlying4 Try.underlying3 Try.underlying3 Try.underlying3 Try.underlying3 Try.underlying3 (hval 1 23 v1 rfl rfl) h1
  have k2 := h2
  obtain ⟨a2, rfl, _, _, w2⟩ := open_int Try.underlying3 (hval 2 3 v2 rfl rfl) h2
  refine (walk t0 b0 tp0 at0 pm0 ty0 t1 b1 tp1 at1 pm1 ty1 a2 wb0 wtp0 wat0 wpm0 wty0 wb1 wtp1 wat1 wpm1 wty1 w2 W).mono fun e W' ⟨h, he⟩ => ?_
  subst h
  refine ⟨_, rfl, ?_⟩
  refine lawPost (tb := 4) rfl hW' rfl rfl rfl rfl Try.underlying4 ?_ he
  have hK := (trodAll_cons_mk (lawKept lawLaid (by kernel_rfl) (of_decide_eq_true (by kernel_rfl)) hlt (by intro x hx; simp [hx]) k0 he) (trodAll_cons_mk (lawKept lawLaid (by kernel_rfl) (of_decide_eq_true (by kernel_rfl)) hlt (by intro x hx; simp [hx]) k1 he) (trodAll_cons_mk (lawKept lawLaid (by kernel_rfl) (of_decide_eq_true (by kernel_rfl)) hlt (by intro x hx; simp [hx]) k2 he) trodAll_mk0)))
  simp only [List.append_nil] at hK ⊢
  exact hK

theorem over : Rows.deriveWrongRow.holds Try.pinned (OpenSpec.ofChange Rows.deriveWrongSpec) :=
  OpenClaim.holds_of_wide 8 Try.f8 rfl rfl rfl rfl rfl rfl rfl ⟨rfl, rfl, rfl, rfl, rfl⟩ rfl rfl rfl rfl rfl (by kernel_rfl) Try.func8 (by kernel_rfl)
    (of_decide_eq_true (by kernel_rfl)) (by unfold Func.isWrapper; rw [if_neg (of_decide_eq_false (by kernel_rfl))]; exact ⟨rfl, rfl⟩)
    (fun os started H enc _ => lifted os started H enc)

theorem proved : Rows.DeriveWrongSaid :=
  over
end Go.Proofs.Ytnakimlicedogaa.deriveWrong
