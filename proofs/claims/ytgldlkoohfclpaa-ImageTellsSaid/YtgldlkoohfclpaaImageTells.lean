/- The statement on ImageTells: for every input the law's Go text answers true, and turns nothing that was there. -/
import Derived.Test.YtgldlkoohfclpaaMBase
import Derived.Test.YtgldlkoohfclpaaWImageTells
namespace Go.Proofs.Ytgldlkoohfclpaa.imageTells
set_option linter.unusedSimpArgs false
set_option linter.unusedVariables false
open Go.ChangeShapes Go.WideShapes Go.ChangeAt Go.RowKit Go.Deep Go.Proofs.Ytgldlkoohfclpaa
open Go.ChangeMaps (open_string shut_string)

set_option maxRecDepth 100000 in
theorem lifted (os : Os) (started : os.Started) (H : Type) (enc : TypeId × Value → H) :
    ReturnsInHanded {} Try.checked os 3 .any (Rows.imageTellsSpec.pre6 enc Try.prog Try.f3 Rows.imageTellsRow.domain false) (Rows.imageTellsSpec.post enc Try.prog Try.f3 false true false false) := by
  refine returnsInHanded_of_change_sized (C := Try.checked) lawOwn started (by kernel_rfl) Try.func3
    (ChangeSpec.witness6 (enc := enc) (C := Try.checked) false ⟨#[], #[.agg #[.bool false, .int .i64 0, .int .i64 0, .slice none 0 0, .slice none 0 0, .slice none 0 0], .slice none 0 0], []⟩ 8 (by kernel_rfl) (by kernel_rfl) (by kernel_rfl) (by kernel_rfl)) ?_
  intro W base args ds gs before hval0 hW hcnd hsz0 _
  have hval : ∀ (j : Nat) t v, Try.f3.params[j]? = some t → args[j]? = some v → Value.okWide Try.prog W .any base t v := hval0
  have hW' := hW
  have hlt : ∀ x ∈ before, x.block < W.heap.size := fun x hx => hW.lt x hx
  obtain ⟨p, q, hA0, hV, rfl, hfz, hnd⟩ := hW
  have hA : DataW.TrodAll enc Try.prog W 0 (fun _ => true) true Try.f3.params.toList args.toList ds p := hA0
  rw [Try.params3] at hA hval hsz0
  obtain ⟨v0, vs0, d0, ds0, p0, q0, hargs, rfl, rfl, h0, r0⟩ := trodAll_cons hA
  obtain ⟨v1, vs1, d1, ds1, p1, q1, rfl, rfl, rfl, h1, r1⟩ := trodAll_cons r0
  obtain ⟨rfl, rfl, rfl⟩ := trodAll_nil r1
  obtain rfl : args = #[v0, v1] := by cases args; simp_all
  obtain ⟨rfl, rfl⟩ := trodVars_none hV
  have k0 := h0
  obtain ⟨x0, rfl, wi0⟩ := openImg (hval 0 26 v0 rfl rfl) h0 (fun k hk => of_decide_eq_true (List.all_eq_true.1 hsz0 k (DataW.weights_mem_each (j := 0) rfl rfl k hk)))
  have k1 := h1
  obtain ⟨A1, cap1, bl1, rfl, wc1, wm1, hs1, wz1, wn1⟩ := openBytes (hval 1 27 v1 rfl rfl) h1
  have wl1 : bl1.length ≤ cap1 ∧ cap1 ≤ maxLen := ⟨wc1, wm1⟩
  refine (walk x0 A1 cap1 bl1 W wi0 wl1 hs1 wz1 wn1).mono fun e W' ⟨h, he⟩ => ?_
  subst h
  refine ⟨_, rfl, ?_⟩
  refine lawPost (tb := 4) rfl hW' rfl rfl rfl rfl Try.underlying4 ?_ he
  have hK := (trodAll_cons_mk (lawKept lawLaid (by kernel_rfl) (of_decide_eq_true (by kernel_rfl)) hlt (by intro x hx; simp [hx]) k0 he) (trodAll_cons_mk (lawKept lawLaid (by kernel_rfl) (of_decide_eq_true (by kernel_rfl)) hlt (by intro x hx; simp [hx]) k1 he) trodAll_mk0))
  simp only [List.append_nil] at hK ⊢
  exact hK

theorem over : Rows.imageTellsRow.holds Try.pinned (OpenSpec.ofChange Rows.imageTellsSpec) :=
  OpenClaim.holds_of_wide 3 Try.f3 rfl rfl rfl rfl rfl rfl rfl ⟨rfl, rfl, rfl, rfl, rfl⟩ rfl rfl rfl rfl rfl (by kernel_rfl) Try.func3 (by kernel_rfl)
    (of_decide_eq_true (by kernel_rfl)) (by unfold Func.isWrapper; rw [if_neg (of_decide_eq_false (by kernel_rfl))]; exact ⟨rfl, rfl⟩)
    (fun os started H enc _ => lifted os started H enc)

theorem proved : Rows.ImageTellsSaid :=
  over
end Go.Proofs.Ytgldlkoohfclpaa.imageTells
