/- Layer 10: what is hit lies in pages that are left. -/
import Derived.Test.YthamfkbopjagdaaSweL
import Derived.Test.YthamfkbopjagdaaSweJ
namespace Go.Proofs.Ythamfkbopjagdaa
set_option linter.unusedSimpArgs false
set_option linter.unusedVariables false
open Go.RowKit

/-- What is hit lies in pages of a list. -/
def Covered (mm : Nat) (P : Nat → Bool) (B : Nat → Int) (T : Nat → Bool) (L : List Nat) : Prop := ∀ t, t < 64 → T t = true → hitAt mm P B T t = true → t / 16 ∈ L
section
variable {n mm : Nat} {P : Nat → Bool} {B : Nat → Int} {T D : Nat → Bool} {L : List Nat}
theorem cov_start (hI : ∀ t, T t = true → D (t / 16) = true) : Covered mm P B T (whichN D 4) := fun t h0 h1 _ => whichN_mem.2 ⟨by omega, hI t h1⟩
theorem cov_step : ∀ (pre post : List Nat) (T D : Nat → Bool) (g : Nat), Covered mm P B T (pre ++ post) → Covered mm P B (stS n mm P B (T, D, g) pre).1 post
  | [], _, _, _, _, h => h
  | x :: pre, post, T, D, g, h => by
    refine cov_step pre post (swpR mm P B T (16 * x) (16 * x + 16)) (cleanD n (x : Int) (swpR mm P B T (16 * x) (16 * x + 16)) D) (g + cntR mm P B T (16 * x) 16) ?_
    intro t h0 h1 h2
    have e1 : T t = true := by
      unfold swpR at h1
      exact (Bool.and_eq_true _ _ ▸ h1).1
    have e2 : hitAt mm P B T t = true := by
      rw [← h2]
      exact hitAt_congr (by rw [e1, h1])
    rcases List.mem_cons.1 (h t h0 e1 e2) with e3 | e3
    · exfalso
      unfold swpR at h1
      rw [e1, e2, decide_eq_true (show 16 * x ≤ t ∧ t < 16 * x + 16 by omega)] at h1
      exact Bool.noConfusion h1
    · exact e3
theorem cov_sto (h : Covered mm P B T L) (x : Int) (l : List Int) : Covered mm P (stoB n x l B) (stoT n x l.length T) L := by
  unfold stoB stoT
  cases hs : spanB n x l.length with
  | false => exact h
  | true =>
    rw [if_pos rfl, if_pos rfl]
    intro t h0 h1 h2
    have e1 : T t = true ∧ ¬ (16 * t < x.toNat + l.length ∧ x.toNat < 16 * t + 16 ∧ 0 < l.length) := by
      unfold clrT at h1
      rw [Bool.and_eq_true, Bool.not_eq_true', decide_eq_false_iff_not] at h1
      exact h1
    refine h t h0 e1.1 ?_
    rw [← h2]
    unfold hitAt
    rw [h1, e1.1, bytesAt_ext (B := putB B x.toNat l) (B' := B) fun j hj => by
      unfold putB
      rw [if_neg (by omega)]]
theorem bar_hit (mm : Nat) (P : Nat → Bool) (t : Bool) (b tp : Int) : hitsP mm P (t && !hitsP mm P t b tp) b tp = false := by
  unfold hitsP
  cases t <;> cases decide (b < tp) && isP mm P b <;> rfl
theorem cov_cap (h : Covered mm P B T L) (x : Int) (c : Cap) (hc : hitsP mm P c.tag c.base c.top = false) : Covered mm P (capB n x c B) (capT n x c T) L := by
  unfold capB capT
  by_cases hs : capOk n x c
  · rw [if_pos hs, if_pos hs]
    obtain ⟨k, hk, hx, hx1, hx2⟩ := placeP_k hs.1
    rw [hx1, hx2]
    intro t h0 h1 h2
    by_cases e : t = k
    · exfalso
      subst e
      unfold hitAt at h2
      obtain ⟨t1, b, tp, a, pm, ty⟩ := c
      rw [getL_put hs.2] at h2
      rw [hc] at h2
      exact Bool.noConfusion h2
    · rw [upd1_ne _ _ e] at h1
      refine h t h0 h1 ?_
      rw [← h2]
      unfold hitAt
      rw [upd1_ne _ _ e, bytesAt_ext (B := putB B (16 * k) (bytesC c)) (B' := B) fun j hj => by
        unfold putB
        rw [bytesC_length, if_neg (by omega)]]
  · rw [if_neg hs, if_neg hs]
    exact h
end
/-- Are the first ones all 0? -/
def allZ (l : List Int) (i : Nat) : Bool := (l.take i).all (· == 0)
theorem allZ_succ {l : List Int} {k : Nat} {x : Int} (h : l[k]? = some x) : allZ l (k + 1) = (allZ l k && (x == 0)) := by
  unfold allZ
  rw [List.take_add_one, h, Option.toList_some, List.all_append]
  simp
theorem allZ_no {l : List Int} {k m : Nat} {x : Int} (h : l[k]? = some x) (hx : ¬ x = 0) (hm : k < m) : allZ l m = false := by
  unfold allZ
  rw [List.all_eq_false]
  refine ⟨x, ?_, by simpa using hx⟩
  exact List.mem_of_getElem? (i := k) (by rw [List.getElem?_take, if_pos hm, h])
set_option maxRecDepth 100000 in
set_option maxHeartbeats 4000000 in
theorem onlyNone_ (A : Option Addr) (ca n : Nat) (l : List Int) (a : Nat) (w : World) (hn : l.length = n) (hr : RdB w A l) (hl : byteL l) (ha : a < n) (hm : n ≤ 1000000) : Calls Try.prog 41 #[.slice A n ca, .int .i64 (a : Int)] w fun e w' => e = .returned (.bool (allZ l (a + 1))) ∧ Ext w w' := by
  have HR := hid hr
  have HL := hid hl
  have HN := hid hn
  clear hr hl hn
  have ha0 : (0 : Int) ≤ (a : Int) := by omega
  go_enter Try.func41, Try.ntmps41
  go_wp2
  go_loopw [5] (fun i wr => ∃ k : Nat, k ≤ a + 1 ∧ i = .int .i64 k ∧ Hid (allZ l k = true) ∧ Hid (Ext w wr)) (fun i _ => a + 1 - (intOf i).toNat)
  case atStart => exact ⟨0, Nat.zero_le _, rfl, hid rfl, hid (Ext.refl _)⟩
  case round =>
    obtain ⟨k, hk, rfl, HZ, HX⟩ := hrel
    have hk0 : (0 : Int) ≤ (k : Int) := by omega
    by_cases hlt : k ≤ a
    · have hk1 : (k : Int) ≤ (a : Int) := by omega
      have hk2 : (k : Int) < (n : Int) := by omega
      obtain ⟨b, o, rfl, hb, hc⟩ := (HR.out.ext HX.out) (by rw [HN.out]; omega)
      obtain ⟨x, hx⟩ : ∃ x, l[k]'(by rw [HN.out]; omega) = x := ⟨_, rfl⟩
      have c0 := hc k (by rw [HN.out]; omega)
      rw [hx] at c0
      have hxb : 0 ≤ x ∧ x ≤ 255 := by rw [← hx]; exact HL.out _ (List.getElem_mem _)
      have HG : Hid (l[k]? = some x) := hid (by rw [List.getElem?_eq_getElem (by rw [HN.out]; omega), hx])
      obtain ⟨hx0, hx1⟩ := hxb
      clear hc hx
      by_cases h0 : (0 : Int) < x
      · go_wp2
        go_ret
        exact ⟨by rw [allZ_no HG.out (by omega) (by omega)]; rfl, HX.out⟩
      · obtain rfl : x = 0 := by omega
        go_wp2
        go_roundw
        case rel => exact ⟨k + 1, by omega, by go_num, hid (by rw [allZ_succ HG.out, HZ.out]; rfl), HX⟩
        case measure => simp [intOf]; omega
    · obtain rfl : k = a + 1 := by omega
      have hk1 : ¬ ((a + 1 : Nat) : Int) ≤ (a : Int) := by omega
      go_wp2
      go_ret
      exact ⟨by rw [HZ.out]; rfl, HX.out⟩
/-- What Step leaves: so many pages of those that are left are swept. -/
def StZ (w W : World) (q g s p pq n mm : Nat) (B : Nat → Int) (T P : Nat → Bool) (g0 : Nat) (L : List Nat) (runs : Bool) (k : Int) (e : Ending) (W' : World) : Prop :=
  ∃ (c : Nat) (r : Bool) (A' : Option Addr) (ca' : Nat) (T' D' : Nat → Bool) (g' : Nat), e = .returned (.int .i64 (c : Int)) ∧ Hid (SWB w W' q g s p pq n mm B T' D' P r A' ca' (L.drop c) g') ∧ Hid (Only (Gs g s) W W') ∧ Hid (c ≤ L.length ∧ (r = false → c = L.length) ∧ g' ≤ g0 + 16 * c) ∧
    Hid ((runs = false ∨ k < 1 → c = 0 ∧ r = runs) ∧ (runs = true → 1 ≤ k → (L.length : Int) ≤ k → c = L.length) ∧ (runs = true → 1 ≤ k → r = decide (c < L.length))) ∧ Hid (Covered mm P B T L → Covered mm P B T' (L.drop c))
set_option maxRecDepth 100000 in
set_option maxHeartbeats 4000000 in
theorem stepZ_ (w W : World) (q g s p pq n mm : Nat) (B : Nat → Int) (T D P : Nat → Bool) (runs : Bool) (A : Option Addr) (ca : Nat) (g0 : Nat) (L : List Nat) (h : SWB w W q g s p pq n mm B T D P runs A ca L g0) (hr : runs = false → L.length = 0) (hL : L.length ≤ 1000000) (hg : g0 ≤ 1000000000) (k : Int) :
    Calls Try.prog 24 #[.pointer (some ⟨s, 0, none⟩), .int .i64 k] W fun e W' => StZ w W q g s p pq n mm B T P g0 L runs k e W' := by
  refine (stepAny_ w W q g s p pq n mm B T D P runs A ca g0 L 0 h (Nat.zero_le _) (fun e => (hr e).symm) hL hg k).mono ?_
  rintro e W' ⟨c, r, A', ca', rfl, h1, h2, h3, h4⟩
  refine ⟨c, r, A', ca', _, _, _, rfl, h1, h2, hid ⟨h3.out.2.1, h3.out.2.2, ?_⟩, hid ⟨h4.out.1, fun a b d => h4.out.2.1 a b (by simpa using d), h4.out.2.2⟩, hid fun hv => ?_⟩
  · refine Nat.le_trans (stS_le n mm P B (L.take c) (T, D, g0)) ?_
    have : (L.take c).length ≤ c := by rw [List.length_take]; omega
    simp only
    omega
  · exact cov_step (L.take c) (L.drop c) T D g0 (by rw [List.take_append_drop]; exact hv)

end Go.Proofs.Ythamfkbopjagdaa
