/- Layer 17: codeRight. -/
import Derived.Test.YtgldlkoohfclpaaImC
import Derived.Test.YtgldlkoohfclpaaImD
namespace Go.Proofs.Ytgldlkoohfclpaa
set_option linter.unusedSimpArgs false
set_option linter.unusedVariables false
open Go.RowKit

def asksB (bl : List Int) : Bool := (List.range (bl.length / 4)).any fun k => (insK bl k).op == 28
def codeOk (bl : List Int) : Bool := decide (bl.length % 4 = 0) && (List.range (bl.length / 4)).all (okK bl)
def crB (bl : List Int) (st : Bool) : Bool := codeOk bl && !(st && asksB bl)
theorem RdI.rdF {w : World} {A : Option Addr} {n : Nat} {M : Nat → I4} (h : RdI w A n M) : RdF I4.cells w A ((List.range n).map M) := by
  refine rdF_of I4.len (by decide) fun h0 => ?_
  obtain ⟨b, o, e, hb, hc⟩ := h (by simpa using h0)
  refine ⟨b, o, e, hb, fun i hi j hj => ?_⟩
  have hi2 : i < n := by simpa using hi
  obtain ⟨c0, c1, c2, c3⟩ := hc i hi2
  simp only [List.getElem_map, List.getElem_range]
  rcases (show j = 0 ∨ j = 1 ∨ j = 2 ∨ j = 3 by omega) with rfl | rfl | rfl | rfl
  · simpa [I4.cells] using c0
  · simpa [I4.cells] using c1
  · simpa [I4.cells] using c2
  · simpa [I4.cells] using c3
set_option maxRecDepth 100000 in
set_option maxHeartbeats 4000000 in
theorem addr_ (d : I4) (w : World) : Calls Try.prog 70 #[.agg #[.int .i64 d.op, .int .i64 d.a, .int .i64 d.b, .int .i64 d.c]] w fun e w' => e = .returned (.bool (d.op == 28)) ∧ Ext w w' := by
  go_enter Try.func70, Try.ntmps70
  go_wp2
  go_ret
  exact ⟨rfl, (by repeat (first | (with_reducible exact Ext.refl _) | (with_reducible refine Ext.undrew ?_) | (with_reducible refine Ext.grow ?_ _) | (with_reducible refine Ext.drew ?_) | (with_reducible refine Ext.drewN ?_ _) | (with_reducible refine Ext.alloc ?_ _) | (with_reducible assumption) | ((with_reducible refine Ext.setCell ?_ ?_ _); rotate_left; (first | exact Nat.le_refl _ | ((try dsimp only); (try simp only [World.size_alloc, grow_size, World.size_setCell]); omega)))))⟩
theorem codeRight_ (A : Option Addr) (ca : Nat) (bl : List Int) (st : Bool) (w : World) (hA : RdB w A bl) (hb : byteL bl) (hc : bl.length ≤ ca) (hm : ca ≤ maxLen) (hn : bl.length ≤ 10000) : Calls Try.prog 39 #[.slice A bl.length ca, .bool st] w fun e w' => e = .returned (.bool (crB bl st)) ∧ Ext w w' := by
  have HAL := hid (all_ A ca bl w hA hb hc hm hn)
  clear hA hb
  go_enter Try.func39, Try.ntmps39
  go_wp2_with fail
  refine HAL.out.mono ?_
  rintro e W1 ⟨hx, K, hall, hk4, hcase⟩
  have HX1 := hid hx
  have HAK := hid hall
  clear hx hall
  rcases hcase with ⟨hk, A1, c1, rfl, hrow⟩ | ⟨hk, hbad, rfl⟩ | ⟨hk, hk2, rfl⟩
  · have HOK := hid (show codeOk bl = true by
      unfold codeOk
      rw [decide_eq_true (by omega), Bool.true_and]
      exact List.all_eq_true.2 fun j hj => HAK.out j (by have := List.mem_range.1 hj; omega))
    have HAS := hid (show ((List.range K).map (insK bl)).any (fun d => d.op == 28) = asksB bl by
      unfold asksB
      rw [show bl.length / 4 = K by omega, List.any_map]
      rfl)
    have HR := hid hrow.rdF
    obtain ⟨n, hn2⟩ : ∃ x, bl.length = x := ⟨_, rfl⟩
    rw [hn2] at hn hc hk4 hk ⊢
    clear hrow hn2
    go_wp2_with fail
    refine (contI4_ 70 (fun d => d.op == 28) A1 K c1 ((List.range K).map (insK bl)) W1 HR.out (by simp) (by omega) (fun args V => enterOf Try.func70 (by kernel_rfl) rfl args V) (fun d _ V _ => addr_ d V)).mono ?_
    rintro e W2 ⟨he, hy⟩
    rw [HAS.out] at he
    subst he
    have HE2 := hid (HX1.out.trans hy)
    clear hy
    have HV := hid (show crB bl st = !(st && asksB bl) by unfold crB; rw [HOK.out, Bool.true_and])
    obtain ⟨va, hva⟩ : ∃ v, asksB bl = v := ⟨_, rfl⟩
    rw [hva] at HV ⊢
    clear hva HAS
    cases st with
    | false =>
      go_wp2_with fail
      refine (none_ (some ⟨W2.heap.size, 0, none⟩) 2 2 [false, false] _ (RdF.row0 (Row.new W2 #[.bool false, .bool false] 4)) rfl (by decide)).mono ?_
      rintro e W3 ⟨rfl, hy3⟩
      have HE3 := hid (HE2.out.trans (((Ext.refl _).alloc _).trans hy3))
      clear hy3
      go_wp2
      go_ret
      exact ⟨by rw [HV.out]; rfl, HE3.out⟩
    | true =>
      cases va with
      | false =>
        go_wp2_with fail
        refine (none_ (some ⟨W2.heap.size, 0, none⟩) 2 2 [false, false] _ (RdF.row0 (Row.new W2 #[.bool false, .bool false] 4)) rfl (by decide)).mono ?_
        rintro e W3 ⟨rfl, hy3⟩
        have HE3 := hid (HE2.out.trans (((Ext.refl _).alloc _).trans hy3))
        clear hy3
        go_wp2
        go_ret
        exact ⟨by rw [HV.out]; rfl, HE3.out⟩
      | true =>
        go_wp2_with fail
        refine (none_ (some ⟨W2.heap.size, 0, none⟩) 2 2 [false, true] _ (RdF.row0 (Row.new W2 #[.bool false, .bool true] 4)) rfl (by decide)).mono ?_
        rintro e W3 ⟨rfl, hy3⟩
        have HE3 := hid (HE2.out.trans (((Ext.refl _).alloc _).trans hy3))
        clear hy3
        go_wp2
        go_ret
        exact ⟨by rw [HV.out]; rfl, HE3.out⟩
  · have HOK := hid (show codeOk bl = false by
      unfold codeOk
      rw [show (List.range (bl.length / 4)).all (okK bl) = false from List.all_eq_false.2 ⟨K, List.mem_range.2 (by omega), by rw [hbad]; decide⟩, Bool.and_false])
    have HV := hid (show crB bl st = false by unfold crB; rw [HOK.out, Bool.false_and])
    clear hk
    go_wp2_with fail
    refine (contI4_ 70 (fun d => d.op == 28) none 0 0 [] W1 (RdF.nil _ _) rfl (by decide) (fun args V => enterOf Try.func70 (by kernel_rfl) rfl args V) (fun d _ V _ => addr_ d V)).mono ?_
    rintro e W2 ⟨he, hy⟩
    rw [List.any_nil] at he
    subst he
    have HE2 := hid (HX1.out.trans hy)
    clear hy
    cases st
    all_goals
      go_wp2_with fail
      refine (none_ (some ⟨W2.heap.size, 0, none⟩) 2 2 [true, false] _ (RdF.row0 (Row.new W2 #[.bool true, .bool false] 4)) rfl (by decide)).mono ?_
      rintro e W3 ⟨rfl, hy3⟩
      have HE3 := hid (HE2.out.trans (((Ext.refl _).alloc _).trans hy3))
      clear hy3
      go_wp2
      go_ret
      exact ⟨by rw [HV.out]; rfl, HE3.out⟩
  · have HOK := hid (show codeOk bl = false by
      unfold codeOk
      rw [decide_eq_false (by omega), Bool.false_and])
    have HV := hid (show crB bl st = false by unfold crB; rw [HOK.out, Bool.false_and])
    clear hk
    go_wp2_with fail
    refine (contI4_ 70 (fun d => d.op == 28) none 0 0 [] W1 (RdF.nil _ _) rfl (by decide) (fun args V => enterOf Try.func70 (by kernel_rfl) rfl args V) (fun d _ V _ => addr_ d V)).mono ?_
    rintro e W2 ⟨he, hy⟩
    rw [List.any_nil] at he
    subst he
    have HE2 := hid (HX1.out.trans hy)
    clear hy
    cases st
    all_goals
      go_wp2_with fail
      refine (none_ (some ⟨W2.heap.size, 0, none⟩) 2 2 [true, false] _ (RdF.row0 (Row.new W2 #[.bool true, .bool false] 4)) rfl (by decide)).mono ?_
      rintro e W3 ⟨rfl, hy3⟩
      have HE3 := hid (HE2.out.trans (((Ext.refl _).alloc _).trans hy3))
      clear hy3
      go_wp2
      go_ret
      exact ⟨by rw [HV.out]; rfl, HE3.out⟩

end Go.Proofs.Ytgldlkoohfclpaa
