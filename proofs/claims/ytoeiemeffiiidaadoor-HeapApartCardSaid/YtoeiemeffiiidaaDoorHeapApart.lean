/- The statement on HeapApart: for every input the law's Go text answers true, and turns nothing that was there. -/
import Derived.Test.YtoeiemeffiiidaaDoorMBase
import Derived.Test.YtoeiemeffiiidaaDoorLaid14
import Derived.Test.YtoeiemeffiiidaaDoorTie
import Derived.Test.YtoeiemeffiiidaaDoorCards
import Derived.Test.YtoeiemeffiiidaaDoorWHeapApart
namespace Go.Proofs.YtoeiemeffiiidaaDoor.heapApart
set_option linter.unusedSimpArgs false
set_option linter.unusedVariables false
open Go.ChangeShapes Go.WideShapes Go.ChangeAt Go.RowKit Go.Deep Go.Proofs.YtoeiemeffiiidaaDoor
open Go.ChangeMaps (open_string shut_string)

set_option maxRecDepth 100000 in
theorem lifted (os : Os) (started : os.Started) (H : Type) (enc : TypeId × Value → H) :
    ReturnsInHanded {} Tryd.checked os 3 .any (fun w args => (Rows.heapApartSpec.pre enc Tryd.prog Tryd.f3 Rows.heapApartRow.domain false w args ∧ laidMetH Tryd.prog laidList w) ∧ sizedMet enc Tryd.prog Tryd.f3 (OpenSpec.ofChange Rows.heapApartSpec) false w args) (Rows.heapApartSpec.post enc Tryd.prog Tryd.f3 false true false false) := by
  refine returnsInHanded_of_change_and (C := Tryd.checked) (X := fun w _ => laidMetH Tryd.prog laidList w) (fun _ _ _ hh h => h.of_heap hh) lawOwn started (by kernel_rfl) Tryd.func3
    (ChangeSpec.witness_shaped (enc := enc) (C := Tryd.checked) (os := os) (X := fun w _ => laidMetH Tryd.prog laidList w) false (World.laidAll Tryd.prog os laidList) #[.int .u8 0, .slice none 0 0] 8 (World.laidAll_os _ _ _)
      (World.shaped_of_ZipB (by kernel_rfl) (by kernel_rfl)) (by kernel_rfl) (by kernel_rfl) (by kernel_rfl)
      (by rw [MakeChecks.laidMetH_plain _ _ _ (by kernel_rfl)]; exact laidMet_laidAll _ (by kernel_rfl) (by kernel_rfl))) ?_
  intro W base args ds gs before hval0 hW hcnd _ hL _
  have hval : ∀ (j : Nat) t v, Tryd.f3.params[j]? = some t → args[j]? = some v → Value.okWide Tryd.prog W .any base t v := hval0
  have hW' := hW
  have hlt : ∀ x ∈ before, x.block < W.heap.size := fun x hx => hW.lt x hx
  obtain ⟨p, q, hA0, hV, rfl, hfz, hnd⟩ := hW
  have hA : DataW.TrodAll enc Tryd.prog W 0 (fun _ => true) true Tryd.f3.params.toList args.toList ds p := hA0
  rw [Tryd.params3] at hA hval
  obtain ⟨v0, vs0, d0, ds0, p0, q0, hargs, rfl, rfl, h0, r0⟩ := trodAll_cons hA
  obtain ⟨v1, vs1, d1, ds1, p1, q1, rfl, rfl, rfl, h1, r1⟩ := trodAll_cons r0
  obtain ⟨rfl, rfl, rfl⟩ := trodAll_nil r1
  obtain rfl : args = #[v0, v1] := by cases args; simp_all
  obtain ⟨rfl, rfl⟩ := trodVars_none hV
  have k0 := h0
  obtain ⟨a0, rfl, _, _, w0⟩ := open_int Tryd.underlying5 (hval 0 5 v0 rfl rfl) h0
  have k1 := h1
  obtain ⟨A1, cap1, zs1, rfl, wc1, wm1, hs1, wz1⟩ := trodArgSlice (α := POp) (n := 8) POp.cells POp.good Tryd.underlying22 (by kernel_rfl) (by omega) (fun m cs x hx => trodPOp hx) (hval 1 22 v1 rfl rfl) h1
  have wl1 : zs1.length ≤ maxLen := Nat.le_trans wc1 wm1
  have hTab := tab_of_laid hL
  refine (walk a0 A1 cap1 zs1 W w0 wl1 hs1 wz1 hTab).mono fun e W' ⟨h, he⟩ => ?_
  subst h
  refine ⟨_, rfl, ?_⟩
  refine lawPost (tb := 4) rfl hW' rfl rfl rfl rfl Tryd.underlying4 ?_ he
  have hK := (trodAll_cons_mk (lawKept lawLaid (by kernel_rfl) (of_decide_eq_true (by kernel_rfl)) hlt (by intro x hx; simp [hx]) k0 he) (trodAll_cons_mk (lawKept lawLaid (by kernel_rfl) (of_decide_eq_true (by kernel_rfl)) hlt (by intro x hx; simp [hx]) k1 he) trodAll_mk0))
  simp only [List.append_nil] at hK ⊢
  exact hK

theorem over : Rows.heapApartRow.holds Tryd.pinned (OpenSpec.ofChange Rows.heapApartSpec) :=
  OpenClaim.holds_of_wide 3 Tryd.f3 rfl rfl rfl rfl rfl rfl rfl ⟨rfl, rfl, rfl, rfl, rfl⟩ rfl rfl rfl rfl rfl (by kernel_rfl) Tryd.func3 (by kernel_rfl)
    (of_decide_eq_true (by kernel_rfl)) (by unfold Func.isWrapper; rw [if_neg (of_decide_eq_false (by kernel_rfl))]; exact ⟨rfl, rfl⟩)
    (fun os started H enc _ => lifted os started H enc)

theorem proved : Rows.HeapApartCardSaid :=
  Claim7.holds_tied_plain_at .later [] [.data] true (true, "ef0546c82b3cfbeff6d27571be20f371c92596e54195736dc99b8d73cdee5f87") false over (fun _ h => by cases h) (by kernel_rfl) (fun _ h => by cases h) heapApart_row_tie rfl ⟨rfl, rfl⟩ (by kernel_rfl) rfl
    (fun f fn hf hfn => by
      obtain rfl : f = 3 := Option.some.inj ((show Tryd.prog.funcNamed "seizin/seizinlaw14.HeapApart" = some 3 by kernel_rfl).symm.trans hf) |>.symm
      obtain rfl : fn = Tryd.f3 := (Option.some.inj (Tryd.func3.symm.trans hfn)).symm
      exact ⟨by kernel_rfl, fun j t ht => by
        rw [Tryd.params3] at ht
        have hm : t ∈ [5, 22] := by simpa using Array.mem_of_getElem? ht
        have hall : ([5, 22].all fun u => !Tryd.prog.wantsStandIn u) = true := by kernel_rfl
        exact (show Tryd.prog.wantsStandIn t = false by simpa using List.all_eq_true.1 hall t hm)⟩)
    (by kernel_rfl)
end Go.Proofs.YtoeiemeffiiidaaDoor.heapApart
