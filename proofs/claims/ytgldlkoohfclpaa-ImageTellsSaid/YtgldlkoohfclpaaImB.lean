/- Layer 17: IndexFunc, ContainsFunc. -/
import Derived.Test.YtgldlkoohfclpaaImA
namespace Go.Proofs.Ytgldlkoohfclpaa
set_option linter.unusedSimpArgs false
set_option linter.unusedVariables false
open Go.RowKit

set_option maxRecDepth 100000 in
set_option maxHeartbeats 4000000 in
theorem idxCmp_ (F : FuncId) (P : Value) (q : Cmp → Bool) (A : Option Addr) (n ca : Nat) (cs : List Cmp) (w : World) (hA : RdF Cmp.cells w A cs) (hn : cs.length = n) (hb : n ≤ 1000000) (hfn : ∀ args w', Sem.run Try.prog (callFunc F args) w' = .ok (.enter F args) w') (hq : ∀ d : Cmp, d ∈ cs → ∀ W, Ext w W → Calls Try.prog F #[.agg #[.slice d.A d.bl.length d.ca, .int .i64 d.data], P] W fun e w' => e = .returned (.bool (q d)) ∧ Ext W w') :
    Calls Try.prog 79 #[.slice A n ca, .func (.func F) #[] #[P]] w fun e w' => ∃ z : Int, e = .returned (.int .i64 z) ∧ decide (0 ≤ z) = cs.any q ∧ Ext w w' := by
  subst hn
  have HA := hid hA
  have HQ := hid hq
  clear hA hq
  go_enter Try.func79, Try.ntmps79
  go_wp2
  go_loopw [8] (fun i wr => ∃ k : Nat, k ≤ cs.length ∧ i = .int .i64 k ∧ Hid ((cs.take k).any q = false) ∧ Hid (Ext w wr)) (fun i _ => cs.length - (intOf i).toNat)
  case atStart => exact ⟨0, Nat.zero_le _, rfl, hid rfl, hid (Ext.refl _)⟩
  case round =>
    obtain ⟨k, hk, rfl, HN, HX⟩ := hrel
    by_cases hlt : k < cs.length
    · have hk1 : (k : Int) < (cs.length : Int) := by omega
      have hk0 : (0 : Int) ≤ (k : Int) := by omega
      obtain ⟨d, hd⟩ : ∃ d, cs[k] = d := ⟨_, rfl⟩
      have HT : Hid ((cs.take (k + 1)).any q = q d) := hid (by rw [List.take_succ_eq_append_getElem hlt, List.any_append, HN.out, Bool.false_or, hd]; simp)
      have HM : Hid (d ∈ cs) := hid (by rw [← hd]; exact List.getElem_mem _)
      obtain ⟨b, o, rfl, hb1, hrg⟩ := (HA.out.ext HX.out).elem cmp_len hlt d hd
      have c0 := hrg 0 _ rfl
      have c1 := hrg 1 _ rfl
      simp only [Nat.add_zero] at c0
      clear hd hrg
      go_wp2_with fail
      refine (HQ.out d HM.out _ HX.out).mono ?_; rintro e W1 ⟨he, hy⟩
      have HY := hid hy
      clear hy
      cases hg : q d with
      | false =>
        rw [hg] at he HT
        subst he
        clear hg
        go_wp2
        go_roundw
        case rel => exact ⟨k + 1, by omega, by go_num, HT, hid (HX.out.trans HY.out)⟩
        case measure => simp [intOf]; omega
      | true =>
        rw [hg] at he
        subst he
        have hany : cs.any q = true := List.any_eq_true.2 ⟨d, HM.out, hg⟩
        clear hg
        go_wp2
        go_ret
        exact ⟨k, rfl, by rw [hany]; exact decide_eq_true hk0, HX.out.trans HY.out⟩
    · obtain rfl : k = cs.length := by omega
      have hany : cs.any q = false := by have := HN.out; rwa [List.take_length] at this
      go_wp2
      go_ret
      exact ⟨_, rfl, by rw [hany]; decide, HX.out⟩
theorem contCmp_ (F : FuncId) (P : Value) (q : Cmp → Bool) (A : Option Addr) (n ca : Nat) (cs : List Cmp) (w : World) (hA : RdF Cmp.cells w A cs) (hn : cs.length = n) (hb : n ≤ 1000000) (hfn : ∀ args w', Sem.run Try.prog (callFunc F args) w' = .ok (.enter F args) w') (hq : ∀ d : Cmp, d ∈ cs → ∀ W, Ext w W → Calls Try.prog F #[.agg #[.slice d.A d.bl.length d.ca, .int .i64 d.data], P] W fun e w' => e = .returned (.bool (q d)) ∧ Ext W w') :
    Calls Try.prog 66 #[.slice A n ca, .func (.func F) #[] #[P]] w fun e w' => e = .returned (.bool (cs.any q)) ∧ Ext w w' := by
  have HI : Hid (∀ W, w = W → Calls Try.prog 79 #[.slice A n ca, .func (.func F) #[] #[P]] W fun e w' => ∃ z : Int, e = .returned (.int .i64 z) ∧ decide (0 ≤ z) = cs.any q ∧ Ext W w') := hid (fun W e => by subst e; exact idxCmp_ F P q A n ca cs w hA hn hb hfn hq)
  clear hA hq hfn
  go_enter Try.func66, Try.ntmps66
  go_wp2_with fail
  refine (HI.out _ rfl).mono ?_; rintro e W1 ⟨z, rfl, hz, hy⟩
  go_wp2
  go_ret
  first | exact ⟨rfl, hy⟩ | exact ⟨by rw [← hz], hy⟩
set_option maxRecDepth 100000 in
set_option maxHeartbeats 4000000 in
theorem idxLnk_ (F : FuncId) (P : Value) (q : Lnk → Bool) (A : Option Addr) (n ca : Nat) (cs : List Lnk) (w : World) (hA : RdF Lnk.cells w A cs) (hn : cs.length = n) (hb : n ≤ 1000000) (hfn : ∀ args w', Sem.run Try.prog (callFunc F args) w' = .ok (.enter F args) w') (hq : ∀ d : Lnk, d ∈ cs → ∀ W, Ext w W → Calls Try.prog F #[.agg #[.int .i64 d.fr, .int .i64 d.to_, .int .i64 d.at_], P] W fun e w' => e = .returned (.bool (q d)) ∧ Ext W w') :
    Calls Try.prog 82 #[.slice A n ca, .func (.func F) #[] #[P]] w fun e w' => ∃ z : Int, e = .returned (.int .i64 z) ∧ decide (0 ≤ z) = cs.any q ∧ Ext w w' := by
  subst hn
  have HA := hid hA
  have HQ := hid hq
  clear hA hq
  go_enter Try.func82, Try.ntmps82
  go_wp2
  go_loopw [8] (fun i wr => ∃ k : Nat, k ≤ cs.length ∧ i = .int .i64 k ∧ Hid ((cs.take k).any q = false) ∧ Hid (Ext w wr)) (fun i _ => cs.length - (intOf i).toNat)
  case atStart => exact ⟨0, Nat.zero_le _, rfl, hid rfl, hid (Ext.refl _)⟩
  case round =>
    obtain ⟨k, hk, rfl, HN, HX⟩ := hrel
    by_cases hlt : k < cs.length
    · have hk1 : (k : Int) < (cs.length : Int) := by omega
      have hk0 : (0 : Int) ≤ (k : Int) := by omega
      obtain ⟨d, hd⟩ : ∃ d, cs[k] = d := ⟨_, rfl⟩
      have HT : Hid ((cs.take (k + 1)).any q = q d) := hid (by rw [List.take_succ_eq_append_getElem hlt, List.any_append, HN.out, Bool.false_or, hd]; simp)
      have HM : Hid (d ∈ cs) := hid (by rw [← hd]; exact List.getElem_mem _)
      obtain ⟨b, o, rfl, hb1, hrg⟩ := (HA.out.ext HX.out).elem lnk_len hlt d hd
      have c0 := hrg 0 _ rfl
      have c1 := hrg 1 _ rfl
      have c2 := hrg 2 _ rfl
      simp only [Nat.add_zero] at c0
      clear hd hrg
      go_wp2_with fail
      refine (HQ.out d HM.out _ HX.out).mono ?_; rintro e W1 ⟨he, hy⟩
      have HY := hid hy
      clear hy
      cases hg : q d with
      | false =>
        rw [hg] at he HT
        subst he
        clear hg
        go_wp2
        go_roundw
        case rel => exact ⟨k + 1, by omega, by go_num, HT, hid (HX.out.trans HY.out)⟩
        case measure => simp [intOf]; omega
      | true =>
        rw [hg] at he
        subst he
        have hany : cs.any q = true := List.any_eq_true.2 ⟨d, HM.out, hg⟩
        clear hg
        go_wp2
        go_ret
        exact ⟨k, rfl, by rw [hany]; exact decide_eq_true hk0, HX.out.trans HY.out⟩
    · obtain rfl : k = cs.length := by omega
      have hany : cs.any q = false := by have := HN.out; rwa [List.take_length] at this
      go_wp2
      go_ret
      exact ⟨_, rfl, by rw [hany]; decide, HX.out⟩
theorem contLnk_ (F : FuncId) (P : Value) (q : Lnk → Bool) (A : Option Addr) (n ca : Nat) (cs : List Lnk) (w : World) (hA : RdF Lnk.cells w A cs) (hn : cs.length = n) (hb : n ≤ 1000000) (hfn : ∀ args w', Sem.run Try.prog (callFunc F args) w' = .ok (.enter F args) w') (hq : ∀ d : Lnk, d ∈ cs → ∀ W, Ext w W → Calls Try.prog F #[.agg #[.int .i64 d.fr, .int .i64 d.to_, .int .i64 d.at_], P] W fun e w' => e = .returned (.bool (q d)) ∧ Ext W w') :
    Calls Try.prog 71 #[.slice A n ca, .func (.func F) #[] #[P]] w fun e w' => e = .returned (.bool (cs.any q)) ∧ Ext w w' := by
  have HI : Hid (∀ W, w = W → Calls Try.prog 82 #[.slice A n ca, .func (.func F) #[] #[P]] W fun e w' => ∃ z : Int, e = .returned (.int .i64 z) ∧ decide (0 ≤ z) = cs.any q ∧ Ext W w') := hid (fun W e => by subst e; exact idxLnk_ F P q A n ca cs w hA hn hb hfn hq)
  clear hA hq hfn
  go_enter Try.func71, Try.ntmps71
  go_wp2_with fail
  refine (HI.out _ rfl).mono ?_; rintro e W1 ⟨z, rfl, hz, hy⟩
  go_wp2
  go_ret
  first | exact ⟨rfl, hy⟩ | exact ⟨by rw [← hz], hy⟩
set_option maxRecDepth 100000 in
set_option maxHeartbeats 4000000 in
theorem idxShr_ (F : FuncId) (P : Value) (q : Shr → Bool) (A : Option Addr) (n ca : Nat) (cs : List Shr) (w : World) (hA : RdF Shr.cells w A cs) (hn : cs.length = n) (hb : n ≤ 1000000) (hfn : ∀ args w', Sem.run Try.prog (callFunc F args) w' = .ok (.enter F args) w') (hq : ∀ d : Shr, d ∈ cs → ∀ W, Ext w W → Calls Try.prog F #[.agg #[.int .i64 d.rd, .int .i64 d.wr_], P] W fun e w' => e = .returned (.bool (q d)) ∧ Ext W w') :
    Calls Try.prog 83 #[.slice A n ca, .func (.func F) #[] #[P]] w fun e w' => ∃ z : Int, e = .returned (.int .i64 z) ∧ decide (0 ≤ z) = cs.any q ∧ Ext w w' := by
  subst hn
  have HA := hid hA
  have HQ := hid hq
  clear hA hq
  go_enter Try.func83, Try.ntmps83
  go_wp2
  go_loopw [8] (fun i wr => ∃ k : Nat, k ≤ cs.length ∧ i = .int .i64 k ∧ Hid ((cs.take k).any q = false) ∧ Hid (Ext w wr)) (fun i _ => cs.length - (intOf i).toNat)
  case atStart => exact ⟨0, Nat.zero_le _, rfl, hid rfl, hid (Ext.refl _)⟩
  case round =>
    obtain ⟨k, hk, rfl, HN, HX⟩ := hrel
    by_cases hlt : k < cs.length
    · have hk1 : (k : Int) < (cs.length : Int) := by omega
      have hk0 : (0 : Int) ≤ (k : Int) := by omega
      obtain ⟨d, hd⟩ : ∃ d, cs[k] = d := ⟨_, rfl⟩
      have HT : Hid ((cs.take (k + 1)).any q = q d) := hid (by rw [List.take_succ_eq_append_getElem hlt, List.any_append, HN.out, Bool.false_or, hd]; simp)
      have HM : Hid (d ∈ cs) := hid (by rw [← hd]; exact List.getElem_mem _)
      obtain ⟨b, o, rfl, hb1, hrg⟩ := (HA.out.ext HX.out).elem shr_len hlt d hd
      have c0 := hrg 0 _ rfl
      have c1 := hrg 1 _ rfl
      simp only [Nat.add_zero] at c0
      clear hd hrg
      go_wp2_with fail
      refine (HQ.out d HM.out _ HX.out).mono ?_; rintro e W1 ⟨he, hy⟩
      have HY := hid hy
      clear hy
      cases hg : q d with
      | false =>
        rw [hg] at he HT
        subst he
        clear hg
        go_wp2
        go_roundw
        case rel => exact ⟨k + 1, by omega, by go_num, HT, hid (HX.out.trans HY.out)⟩
        case measure => simp [intOf]; omega
      | true =>
        rw [hg] at he
        subst he
        have hany : cs.any q = true := List.any_eq_true.2 ⟨d, HM.out, hg⟩
        clear hg
        go_wp2
        go_ret
        exact ⟨k, rfl, by rw [hany]; exact decide_eq_true hk0, HX.out.trans HY.out⟩
    · obtain rfl : k = cs.length := by omega
      have hany : cs.any q = false := by have := HN.out; rwa [List.take_length] at this
      go_wp2
      go_ret
      exact ⟨_, rfl, by rw [hany]; decide, HX.out⟩
theorem contShr_ (F : FuncId) (P : Value) (q : Shr → Bool) (A : Option Addr) (n ca : Nat) (cs : List Shr) (w : World) (hA : RdF Shr.cells w A cs) (hn : cs.length = n) (hb : n ≤ 1000000) (hfn : ∀ args w', Sem.run Try.prog (callFunc F args) w' = .ok (.enter F args) w') (hq : ∀ d : Shr, d ∈ cs → ∀ W, Ext w W → Calls Try.prog F #[.agg #[.int .i64 d.rd, .int .i64 d.wr_], P] W fun e w' => e = .returned (.bool (q d)) ∧ Ext W w') :
    Calls Try.prog 73 #[.slice A n ca, .func (.func F) #[] #[P]] w fun e w' => e = .returned (.bool (cs.any q)) ∧ Ext w w' := by
  have HI : Hid (∀ W, w = W → Calls Try.prog 83 #[.slice A n ca, .func (.func F) #[] #[P]] W fun e w' => ∃ z : Int, e = .returned (.int .i64 z) ∧ decide (0 ≤ z) = cs.any q ∧ Ext W w') := hid (fun W e => by subst e; exact idxShr_ F P q A n ca cs w hA hn hb hfn hq)
  clear hA hq hfn
  go_enter Try.func73, Try.ntmps73
  go_wp2_with fail
  refine (HI.out _ rfl).mono ?_; rintro e W1 ⟨z, rfl, hz, hy⟩
  go_wp2
  go_ret
  first | exact ⟨rfl, hy⟩ | exact ⟨by rw [← hz], hy⟩
set_option maxRecDepth 100000 in
set_option maxHeartbeats 4000000 in
theorem idxI4_ (F : FuncId) (q : I4 → Bool) (A : Option Addr) (n ca : Nat) (cs : List I4) (w : World) (hA : RdF I4.cells w A cs) (hn : cs.length = n) (hb : n ≤ 1000000) (hfn : ∀ args w', Sem.run Try.prog (callFunc F args) w' = .ok (.enter F args) w') (hq : ∀ d : I4, d ∈ cs → ∀ W, Ext w W → Calls Try.prog F #[.agg #[.int .i64 d.op, .int .i64 d.a, .int .i64 d.b, .int .i64 d.c]] W fun e w' => e = .returned (.bool (q d)) ∧ Ext W w') :
    Calls Try.prog 81 #[.slice A n ca, .func (.func F) #[] #[]] w fun e w' => ∃ z : Int, e = .returned (.int .i64 z) ∧ decide (0 ≤ z) = cs.any q ∧ Ext w w' := by
  subst hn
  have HA := hid hA
  have HQ := hid hq
  clear hA hq
  go_enter Try.func81, Try.ntmps81
  go_wp2
  go_loopw [8] (fun i wr => ∃ k : Nat, k ≤ cs.length ∧ i = .int .i64 k ∧ Hid ((cs.take k).any q = false) ∧ Hid (Ext w wr)) (fun i _ => cs.length - (intOf i).toNat)
  case atStart => exact ⟨0, Nat.zero_le _, rfl, hid rfl, hid (Ext.refl _)⟩
  case round =>
    obtain ⟨k, hk, rfl, HN, HX⟩ := hrel
    by_cases hlt : k < cs.length
    · have hk1 : (k : Int) < (cs.length : Int) := by omega
      have hk0 : (0 : Int) ≤ (k : Int) := by omega
      obtain ⟨d, hd⟩ : ∃ d, cs[k] = d := ⟨_, rfl⟩
      have HT : Hid ((cs.take (k + 1)).any q = q d) := hid (by rw [List.take_succ_eq_append_getElem hlt, List.any_append, HN.out, Bool.false_or, hd]; simp)
      have HM : Hid (d ∈ cs) := hid (by rw [← hd]; exact List.getElem_mem _)
      obtain ⟨b, o, rfl, hb1, hrg⟩ := (HA.out.ext HX.out).elem I4.len hlt d hd
      have c0 := hrg 0 _ rfl
      have c1 := hrg 1 _ rfl
      have c2 := hrg 2 _ rfl
      have c3 := hrg 3 _ rfl
      simp only [Nat.add_zero] at c0
      clear hd hrg
      go_wp2_with fail
      refine (HQ.out d HM.out _ HX.out).mono ?_; rintro e W1 ⟨he, hy⟩
      have HY := hid hy
      clear hy
      cases hg : q d with
      | false =>
        rw [hg] at he HT
        subst he
        clear hg
        go_wp2
        go_roundw
        case rel => exact ⟨k + 1, by omega, by go_num, HT, hid (HX.out.trans HY.out)⟩
        case measure => simp [intOf]; omega
      | true =>
        rw [hg] at he
        subst he
        have hany : cs.any q = true := List.any_eq_true.2 ⟨d, HM.out, hg⟩
        clear hg
        go_wp2
        go_ret
        exact ⟨k, rfl, by rw [hany]; exact decide_eq_true hk0, HX.out.trans HY.out⟩
    · obtain rfl : k = cs.length := by omega
      have hany : cs.any q = false := by have := HN.out; rwa [List.take_length] at this
      go_wp2
      go_ret
      exact ⟨_, rfl, by rw [hany]; decide, HX.out⟩
theorem contI4_ (F : FuncId) (q : I4 → Bool) (A : Option Addr) (n ca : Nat) (cs : List I4) (w : World) (hA : RdF I4.cells w A cs) (hn : cs.length = n) (hb : n ≤ 1000000) (hfn : ∀ args w', Sem.run Try.prog (callFunc F args) w' = .ok (.enter F args) w') (hq : ∀ d : I4, d ∈ cs → ∀ W, Ext w W → Calls Try.prog F #[.agg #[.int .i64 d.op, .int .i64 d.a, .int .i64 d.b, .int .i64 d.c]] W fun e w' => e = .returned (.bool (q d)) ∧ Ext W w') :
    Calls Try.prog 69 #[.slice A n ca, .func (.func F) #[] #[]] w fun e w' => e = .returned (.bool (cs.any q)) ∧ Ext w w' := by
  have HI : Hid (∀ W, w = W → Calls Try.prog 81 #[.slice A n ca, .func (.func F) #[] #[]] W fun e w' => ∃ z : Int, e = .returned (.int .i64 z) ∧ decide (0 ≤ z) = cs.any q ∧ Ext W w') := hid (fun W e => by subst e; exact idxI4_ F q A n ca cs w hA hn hb hfn hq)
  clear hA hq hfn
  go_enter Try.func69, Try.ntmps69
  go_wp2_with fail
  refine (HI.out _ rfl).mono ?_; rintro e W1 ⟨z, rfl, hz, hy⟩
  go_wp2
  go_ret
  first | exact ⟨rfl, hy⟩ | exact ⟨by rw [← hz], hy⟩

end Go.Proofs.Ytgldlkoohfclpaa
