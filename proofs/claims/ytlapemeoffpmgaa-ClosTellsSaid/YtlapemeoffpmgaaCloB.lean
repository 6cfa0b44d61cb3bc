/- Layer 6: IndexFunc, ContainsFunc. -/
import Derived.Test.YtlapemeoffpmgaaCloA
namespace Go.Proofs.Ytlapemeoffpmgaa
set_option linter.unusedSimpArgs false
set_option linter.unusedVariables false
open Go.RowKit

theorem RdF.cap {w : World} {A : Option Addr} {cs : List Cap} (h : RdF Cap.cells w A cs) {k : Nat} (hk : k < cs.length) (c : Cap) (hc : cs[k] = c) : ∃ b o, A = some ⟨b, o, none⟩ ∧ b < w.heap.size ∧ w.cell? ⟨b, o + k * 6, none⟩ = some (.bool c.tag) ∧ w.cell? ⟨b, o + k * 6 + 1, none⟩ = some (.int .i64 c.base) ∧ w.cell? ⟨b, o + k * 6 + 2, none⟩ = some (.int .i64 c.top) ∧ w.cell? ⟨b, o + k * 6 + 3, none⟩ = some (.int .i64 c.at_) ∧ w.cell? ⟨b, o + k * 6 + 4, none⟩ = some (.int .i64 c.perms) ∧ w.cell? ⟨b, o + k * 6 + 5, none⟩ = some (.int .i64 c.type) := by
  obtain ⟨b, o, hA, hb, hr⟩ := h.elem cap_len hk c hc
  exact ⟨b, o, hA, hb, hr 0 _ rfl, hr 1 _ rfl, hr 2 _ rfl, hr 3 _ rfl, hr 4 _ rfl, hr 5 _ rfl⟩
set_option maxRecDepth 100000 in
set_option maxHeartbeats 4000000 in
theorem idxC_ (F : FuncId) (P : Value) (q : Cap → Bool) (A : Option Addr) (n ca : Nat) (cs : List Cap) (w : World) (hA : RdF Cap.cells w A cs) (hn : cs.length = n) (hb : n ≤ 1000000000) (hfn : ∀ args w', Sem.run Try.prog (callFunc F args) w' = .ok (.enter F args) w') (hq : ∀ d : Cap, ∀ W, Ext w W → Calls Try.prog F #[.agg #[.bool d.tag, .int .i64 d.base, .int .i64 d.top, .int .i64 d.at_, .int .i64 d.perms, .int .i64 d.type], P] W fun e w' => e = .returned (.bool (q d)) ∧ Ext W w') :
    Calls Try.prog 80 #[.slice A n ca, .func (.func F) #[] #[P]] w fun e w' => ∃ z : Int, e = .returned (.int .i64 z) ∧ decide (0 ≤ z) = cs.any q ∧ Ext w w' := by
  subst hn
  have HA := hid hA
  have HQ := hid hq
  clear hA hq
  go_enter Try.func80, Try.ntmps80
  go_wp2
  go_loopw [8] (fun i wr => ∃ k : Nat, k ≤ cs.length ∧ i = .int .i64 k ∧ Hid ((cs.take k).any q = false) ∧ Hid (Ext w wr)) (fun i _ => cs.length - (intOf i).toNat)
  case atStart => exact ⟨0, Nat.zero_le _, rfl, hid rfl, hid (Ext.refl _)⟩
  case round =>
    obtain ⟨k, hk, rfl, HN, HX⟩ := hrel
    by_cases hlt : k < cs.length
    · have hk1 : (k : Int) < (cs.length : Int) := by omega
      have hk0 : (0 : Int) ≤ (k : Int) := by omega
      obtain ⟨d, hd⟩ : ∃ d, cs[k] = d := ⟨_, rfl⟩
      have HT : Hid ((cs.take (k + 1)).any q = q d) := hid (by rw [List.take_succ_eq_append_getElem hlt, List.any_append, HN.out, Bool.false_or, hd]; simp)
      have HM : Hid (d ∈ cs) := hid (by rw [← hd]; exact List.getElem_mem _)
      obtain ⟨b, o, rfl, hb1, c0, c1, c2, c3, c4, c5⟩ := (HA.out.ext HX.out).cap hlt d hd
      clear hd
      go_wp2_with fail
      refine (HQ.out d _ HX.out).mono ?_; rintro e W1 ⟨he, hy⟩
      have HY := hid hy
      clear hy
      cases hg : q d with
      | false =>
        rw [hg] at he HT
        subst he
        clear hg
        go_wp2
        go_roundw
        case rel => exact ⟨k + 1, by omega, by go_num, HT, hid (HX.out.trans HY.out)⟩
        case measure => simp [intOf]; omega
      | true =>
        rw [hg] at he
        subst he
        have hany : cs.any q = true := List.any_eq_true.2 ⟨d, HM.out, hg⟩
        clear hg
        go_wp2
        go_ret
        exact ⟨k, rfl, by rw [hany]; exact decide_eq_true hk0, HX.out.trans HY.out⟩
    · obtain rfl : k = cs.length := by omega
      have hany : cs.any q = false := by have := HN.out; rwa [List.take_length] at this
      go_wp2
      go_ret
      exact ⟨_, rfl, by rw [hany]; decide, HX.out⟩
set_option maxRecDepth 100000 in
set_option maxHeartbeats 4000000 in
theorem containsC_ (F : FuncId) (P : Value) (q : Cap → Bool) (A : Option Addr) (n ca : Nat) (cs : List Cap) (w : World) (hA : RdF Cap.cells w A cs) (hn : cs.length = n) (hb : n ≤ 1000000000) (hfn : ∀ args w', Sem.run Try.prog (callFunc F args) w' = .ok (.enter F args) w') (hq : ∀ d : Cap, ∀ W, Ext w W → Calls Try.prog F #[.agg #[.bool d.tag, .int .i64 d.base, .int .i64 d.top, .int .i64 d.at_, .int .i64 d.perms, .int .i64 d.type], P] W fun e w' => e = .returned (.bool (q d)) ∧ Ext W w') :
    Calls Try.prog 59 #[.slice A n ca, .func (.func F) #[] #[P]] w fun e w' => e = .returned (.bool (cs.any q)) ∧ Ext w w' := by
  have HI : Hid (∀ W, w = W → Calls Try.prog 80 #[.slice A n ca, .func (.func F) #[] #[P]] W fun e w' => ∃ z : Int, e = .returned (.int .i64 z) ∧ decide (0 ≤ z) = cs.any q ∧ Ext W w') := hid (fun W e => by subst e; exact idxC_ F P q A n ca cs w hA hn hb hfn hq)
  clear hA hq hfn
  go_enter Try.func59, Try.ntmps59
  go_wp2_with fail
  refine (HI.out _ rfl).mono ?_; rintro e W1 ⟨z, rfl, hz, hy⟩
  go_wp2
  go_ret
  first | exact ⟨rfl, hy⟩ | exact ⟨by rw [← hz], hy⟩

end Go.Proofs.Ytlapemeoffpmgaa
