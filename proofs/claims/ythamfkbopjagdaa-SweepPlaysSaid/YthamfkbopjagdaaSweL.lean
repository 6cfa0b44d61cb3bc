/- Layer 10: two sweepers; Step in any state. -/
import Derived.Test.YthamfkbopjagdaaSweK
import Derived.Test.YthamfkbopjagdaaSweF
namespace Go.Proofs.Ythamfkbopjagdaa
set_option linter.unusedSimpArgs false
set_option linter.unusedVariables false
open Go.RowKit

theorem Sw.onlyNil {S : Nat → Prop} {w w' : World} {s q p : Nat} {runs : Bool} {A : Option Addr} {ca : Nat} {gone : Nat} (h : Sw w s q p runs A ca [] gone) (x : Only S w w') (h0 : ¬ S s) : Sw w' s q p runs A ca [] gone :=
  ⟨Nat.lt_of_lt_of_le h.lt x.size, (x.cells s _ h.lt h0).trans h.c0, (x.cells s _ h.lt h0).trans h.c1, (x.cells s _ h.lt h0).trans h.c2, (x.cells s _ h.lt h0).trans h.c3, (x.cells s _ h.lt h0).trans h.c4, fun y => (x.frozens s _ h.lt h0).trans (h.fz y), fun h0 => absurd h0 (by simp), h.lc, h.ns, fun b o e => Nat.lt_of_lt_of_le (h.ab b o e) x.size⟩
/-- What another sweeper, of another memory, leaves of one. -/
theorem SWB.other {S : Nat → Prop} {w W W1 : World} {q g s p pq n mm : Nat} {B : Nat → Int} {T D P : Nat → Bool} {runs : Bool} {A : Option Addr} {ca : Nat} {L : List Nat} {gone : Nat} (h : SWB w W q g s p pq n mm B T D P runs A ca L gone) (x : Only S W W1)
    (k : ¬ S q ∧ ¬ S g ∧ ¬ S s ∧ ¬ S p ∧ ¬ S pq) (ka : L = [] ∨ ∀ b o, A = some ⟨b, o, none⟩ → ¬ S b) (kl : ∀ i, S i → w.heap.size ≤ i) : SWB w W1 q g s p pq n mm B T D P runs A ca L gone := by
  rcases ka with rfl | ka
  · exact ⟨h.h1.only x k.1 k.2.1 kl, h.h2.only x k.2.2.2.1 k.2.2.2.2, h.h3.onlyNil x k.2.2.1, h.ap, h.lo, h.la, h.lb⟩
  · exact h.onlyS x k ka kl
set_option maxRecDepth 100000 in
set_option maxHeartbeats 4000000 in
theorem begin2_ (w W : World) (q g s p pq n mm : Nat) (B : Nat → Int) (T D P : Nat → Bool)  (A : Option Addr) (ca : Nat) (L : List Nat) (gone : Nat) (h : SWB w W q g s p pq n mm B T D P false A ca L gone) : Calls Try.prog 22 #[.pointer (some ⟨s, 0, none⟩)] W fun e W' => ∃ A' ca', e = .returned (.bool true) ∧ Hid (SWB w W' q g s p pq n mm B T D P true A' ca' (whichN D n) gone) ∧ Hid (Only (Gs g s) W W') ∧ Hid (∀ b o, A' = some ⟨b, o, none⟩ → W.heap.size ≤ b) := by
  have HS := hid h
  have c0 := h.h3.c0
  have c2 := h.h3.c2
  have hlt := h.h3.lt
  clear h
  go_enter Try.func22, Try.ntmps22
  go_wp2_with (go_at_call 35; refine (tdirty2_ q g n B T D _ HS.out.h1.1).mono ?_; rintro e W1 ⟨A1, ca1, rfl, HR1, HX1, HL1⟩; have HS1 := hid (HS.out.ext HX1.out); have d2 := HS1.out.h3.c2; have d3 := HS1.out.h3.c3; have f2 := HS1.out.h3.fz 2; have f3 := HS1.out.h3.fz 3; have hl1 := HS1.out.h3.lt)
  go_ret
  have hlow := HL1.out.2.2
  have hsz : s < W.heap.size ∧ g < W.heap.size ∧ pq < W.heap.size := ⟨HS.out.h3.lt, HS.out.h1.1.ltg, HS.out.h2.ltq⟩
  have x1 : Only (· = s) W1 (W1.setCell ⟨s, 2, none⟩ (.bool true)) := Only.setCell (S := (· = s)) (Only.refl _ _) (.inl rfl) _
  have s1 := HS1.out.h3.setRuns true
  have hr2 : RdN (W1.setCell ⟨s, 2, none⟩ (.bool true)) A1 (whichN D n) := HR1.out.set (fun b o e => by have := (hlow b o e).1; omega)
  have s2 := s1.setLeft (A' := A1) (ca' := ca1) (L' := whichN D n) rfl hr2 ⟨HL1.out.1, HL1.out.2.1⟩ (fun b o e => by have := (hlow b o e).1; omega) (fun b o e => by rw [World.size_setCell]; exact (hlow b o e).2)
  have x2 : Only (· = s) W1 ((W1.setCell ⟨s, 2, none⟩ (.bool true)).setCell ⟨s, 3, none⟩ (.slice A1 (whichN D n).length ca1)) := Only.setCell x1 (.inl rfl) _
  refine ⟨A1, ca1, rfl, hid (HS1.out.own s2 x2 (fun b o e => by have := (hlow b o e).1; omega) (fun x hx => (whichN_mem.1 hx).1)), hid ((Only.ofExt HX1.out).trans x2 (fun i e => .inl (.inr e))), hid (fun b o e => (hlow b o e).1)⟩
/-- What Step leaves, in any state: c pages of those that were told are swept. -/
def StAny (w W : World) (q g s p pq n mm : Nat) (B : Nat → Int) (T D P : Nat → Bool) (g0 : Nat) (L : List Nat) (c : Nat) (runs : Bool) (k : Int) (e : Ending) (W' : World) : Prop :=
  ∃ c' r' A' ca', e = .returned (.int .i64 ((c' - c : Nat) : Int)) ∧ Hid (SWB w W' q g s p pq n mm B (stS n mm P B (T, D, g0) (L.take c')).1 (stS n mm P B (T, D, g0) (L.take c')).2.1 P r' A' ca' (L.drop c') (stS n mm P B (T, D, g0) (L.take c')).2.2) ∧ Hid (Only (Gs g s) W W') ∧ Hid (c ≤ c' ∧ c' ≤ L.length ∧ (r' = false → c' = L.length)) ∧
    Hid ((runs = false ∨ k < 1 → c' = c ∧ r' = runs) ∧ (runs = true → 1 ≤ k → (L.length - c : Nat) ≤ k → c' = L.length) ∧ (runs = true → 1 ≤ k → r' = decide (c' < L.length)))
set_option maxRecDepth 100000 in
set_option maxHeartbeats 4000000 in
theorem stepAny_ (w W : World) (q g s p pq n mm : Nat) (B : Nat → Int) (T D P : Nat → Bool) (runs : Bool) (A : Option Addr) (ca : Nat) (g0 : Nat) (L : List Nat) (c : Nat) (h : SWB w W q g s p pq n mm B (stS n mm P B (T, D, g0) (L.take c)).1 (stS n mm P B (T, D, g0) (L.take c)).2.1 P runs A ca (L.drop c) (stS n mm P B (T, D, g0) (L.take c)).2.2) (hc : c ≤ L.length) (hr : runs = false → c = L.length) (hL : L.length ≤ 1000000) (hg : g0 ≤ 1000000000) (k : Int) :
    Calls Try.prog 24 #[.pointer (some ⟨s, 0, none⟩), .int .i64 k] W fun e W' => StAny w W q g s p pq n mm B T D P g0 L c runs k e W' := by
  by_cases hn : runs = false ∨ k < 1
  · refine (step_no w W _ _ _ _ _ _ _ _ _ _ _ _ _ _ _ _ h k hn).mono ?_
    rintro e W' ⟨rfl, h1, h2⟩
    exact ⟨c, runs, A, ca, by rw [Nat.sub_self]; rfl, h1, hid (Only.ofExt h2.out), hid ⟨Nat.le_refl _, hc, hr⟩, hid ⟨fun _ => ⟨rfl, rfl⟩, fun e1 e2 => (by rcases hn with x | x; (rw [x] at e1; cases e1); omega), fun e1 e2 => (by rcases hn with x | x; (rw [x] at e1; cases e1); omega)⟩⟩
  · have e1 : runs = true := by cases runs with | true => rfl | false => exact absurd (.inl rfl) hn
    have hk : 1 ≤ k := by
      have : ¬ k < 1 := fun x => hn (.inr x)
      omega
    subst e1
    obtain ⟨m, hm⟩ : ∃ m, (L.drop c).length = m := ⟨_, rfl⟩
    have hm' : m = L.length - c := by rw [← hm, List.length_drop]
    obtain ⟨r, hr1, hr2⟩ : ∃ r : Nat, r ≤ m ∧ ((m : Int) ≤ k ∧ r = m ∨ k ≤ (m : Int) ∧ (r : Int) = k) := by
      by_cases x : (m : Int) ≤ k
      · exact ⟨m, Nat.le_refl _, .inl ⟨x, rfl⟩⟩
      · exact ⟨k.toNat, by omega, .inr ⟨by omega, by omega⟩⟩
    have hgo := stS_le n mm P B (L.take c) (T, D, g0)
    have htl : (L.take c).length ≤ L.length := by rw [List.length_take]; omega
    simp only at hgo
    refine (step_ w W _ _ _ _ _ _ _ _ _ _ _ _ _ _ _ h r m k hm (by omega) hk ⟨hr1, hr2⟩ (by omega)).mono ?_
    rintro e W' ⟨A', ca', rfl, h1, h2⟩
    have e2 : L.take (c + r) = L.take c ++ (L.drop c).take r := List.take_add
    have h3 := h1.out
    rw [← stS_append, ← e2, List.drop_drop] at h3
    exact ⟨c + r, decide (r < m), A', ca', by rw [Nat.add_sub_cancel_left], hid h3, h2, hid ⟨by omega, by omega, fun x => (by have := of_decide_eq_false x; omega)⟩, hid ⟨fun x => absurd x hn, fun _ _ x => (by omega), fun _ _ => decide_eq_decide.2 (by omega)⟩⟩

end Go.Proofs.Ythamfkbopjagdaa
