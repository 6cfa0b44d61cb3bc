/- The statement on AsmLines: for every input the law's Go text answers true, and turns nothing that was there. -/
import Derived.Test.YtdhpbofpomefoaaDoorMBase
import Derived.Test.YtdhpbofpomefoaaDoorLaid16
import Derived.Test.YtdhpbofpomefoaaDoorOpenI16
import Derived.Test.YtdhpbofpomefoaaDoorTie
import Derived.Test.YtdhpbofpomefoaaDoorCards
import Derived.Test.YtdhpbofpomefoaaDoorWAsmLines
namespace Go.Proofs.YtdhpbofpomefoaaDoor.asmLines
set_option linter.unusedSimpArgs false
set_option linter.unusedVariables false
open Go.ChangeShapes Go.WideShapes Go.ChangeAt Go.RowKit Go.Deep Go.Proofs.YtdhpbofpomefoaaDoor
open Go.ChangeMaps (open_string shut_string)

set_option maxRecDepth 100000 in
theorem lifted (os : Os) (started : os.Started) (H : Type) (enc : TypeId × Value → H) :
    ReturnsInHanded {} Tryd.checked os 4 .any (fun w args => (Rows.asmLinesSpec.pre enc Tryd.prog Tryd.f4 Rows.asmLinesRow.domain false w args ∧ laidMetH Tryd.prog laidList w) ∧ sizedMet enc Tryd.prog Tryd.f4 (OpenSpec.ofChange Rows.asmLinesSpec) false w args) (Rows.asmLinesSpec.post enc Tryd.prog Tryd.f4 false true false false) := by
  refine returns_laid_shaped (C := Tryd.checked) (X := fun w _ => laidMetH Tryd.prog laidList w) (fun _ _ _ hh h => h.of_heap hh) lawOwn started (by kernel_rfl) Tryd.func4
    (ChangeSpec.witness_shaped (enc := enc) (C := Tryd.checked) (os := os) (X := fun w _ => laidMetH Tryd.prog laidList w) false (World.laidAll Tryd.prog os laidList) #[.slice none 0 0, .string ByteArray.empty] 8 (World.laidAll_os _ _ _)
      (World.shaped_of_ZipB (by kernel_rfl) (by kernel_rfl)) (by kernel_rfl) (by kernel_rfl) (by kernel_rfl)
      (by rw [MakeChecks.laidMetH_plain _ _ _ (by kernel_rfl)]; exact laidMet_laidAll _ (by kernel_rfl) (by kernel_rfl))) ?_
  intro W base args ds gs before hval0 hW hL hSh
  have hval : ∀ (j : Nat) t v, Tryd.f4.params[j]? = some t → args[j]? = some v → Value.okWide Tryd.prog W .any base t v := hval0
  have hW' := hW
  have hlt : ∀ x ∈ before, x.block < W.heap.size := fun x hx => hW.lt x hx
  obtain ⟨p, q, hA0, hV, rfl, hfz, hnd⟩ := hW
  have hA : DataW.TrodAll enc Tryd.prog W 0 (fun _ => true) true Tryd.f4.params.toList args.toList ds p := hA0
  rw [Tryd.params4] at hA hval
  obtain ⟨v0, vs0, d0, ds0, p0, q0, hargs, rfl, rfl, h0, r0⟩ := trodAll_cons hA
  obtain ⟨v1, vs1, d1, ds1, p1, q1, rfl, rfl, rfl, h1, r1⟩ := trodAll_cons r0
  obtain ⟨rfl, rfl, rfl⟩ := trodAll_nil r1
  obtain rfl : args = #[v0, v1] := by cases args; simp_all
  obtain ⟨rfl, rfl⟩ := trodVars_none hV
  have k0 := h0
  obtain ⟨A0, cap0, zs0, rfl, wc0, wm0, hs0, _⟩ := trodArgSlice (α := In) (n := 4) insC wfI Tryd.underlying30 (by kernel_rfl) (by omega) (fun m cs x hx => trodIns hx) (hval 0 30 v0 rfl rfl) h0
  have wl0 : zs0.length ≤ cap0 ∧ cap0 ≤ maxLen := ⟨wc0, wm0⟩
  have k1 := h1
  obtain ⟨a1, rfl, _, _, w1⟩ := open_string Tryd.underlying9 (hval 1 9 v1 rfl rfl) h1
  have hTab := tab_of_laid hL hSh
  refine (walk A0 cap0 zs0 a1 W wl0 hs0 w1 hTab).mono fun e W' ⟨h, he⟩ => ?_
  subst h
  refine ⟨_, rfl, ?_⟩
  refine lawPost (tb := 4) rfl hW' rfl rfl rfl rfl Tryd.underlying4 ?_ he
  have hK := (trodAll_cons_mk (lawKept lawLaid (by kernel_rfl) (of_decide_eq_true (by kernel_rfl)) hlt (by intro x hx; simp [hx]) k0 he) (trodAll_cons_mk (lawKept lawLaid (by kernel_rfl) (of_decide_eq_true (by kernel_rfl)) hlt (by intro x hx; simp [hx]) k1 he) trodAll_mk0))
  simp only [List.append_nil] at hK ⊢
  exact hK

theorem over : Rows.asmLinesRow.holds Tryd.pinned (OpenSpec.ofChange Rows.asmLinesSpec) :=
  OpenClaim.holds_of_wide 4 Tryd.f4 rfl rfl rfl rfl rfl rfl rfl ⟨rfl, rfl, rfl, rfl, rfl⟩ rfl rfl rfl rfl rfl (by kernel_rfl) Tryd.func4 (by kernel_rfl)
    (of_decide_eq_true (by kernel_rfl)) (by unfold Func.isWrapper; rw [if_neg (of_decide_eq_false (by kernel_rfl))]; exact ⟨rfl, rfl⟩)
    (fun os started H enc _ => lifted os started H enc)

theorem proved : Rows.AsmLinesCardSaid :=
  Claim7.holds_tied_plain_at .later [] [.data, .data, .data, .data, .sentinel, .sentinel, .listed, .data, .pinned] true (true, "74f127a121c314d11c9435d418331bfc50158e012f71282edc79967f53b9d4c1") true over (fun _ h => by cases h) (by kernel_rfl) (fun _ h => by cases h) asmLines_row_tie rfl ⟨rfl, rfl⟩ (by kernel_rfl) rfl
    (fun f fn hf hfn => by
      obtain rfl : f = 4 := Option.some.inj ((show Tryd.prog.funcNamed "seizin/seizinlaw16.AsmLines" = some 4 by kernel_rfl).symm.trans hf) |>.symm
      obtain rfl : fn = Tryd.f4 := (Option.some.inj (Tryd.func4.symm.trans hfn)).symm
      exact ⟨by kernel_rfl, fun j t ht => by
        rw [Tryd.params4] at ht
        have hm : t ∈ [30, 9] := by simpa using Array.mem_of_getElem? ht
        have hall : ([30, 9].all fun u => !Tryd.prog.wantsStandIn u) = true := by kernel_rfl
        exact (show Tryd.prog.wantsStandIn t = false by simpa using List.all_eq_true.1 hall t hm)⟩)
    (by kernel_rfl)
end Go.Proofs.YtdhpbofpomefoaaDoor.asmLines
