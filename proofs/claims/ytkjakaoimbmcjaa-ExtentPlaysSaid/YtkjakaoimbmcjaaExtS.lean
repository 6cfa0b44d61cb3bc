/- Layer 12: any Take, any Give. -/
import Derived.Test.YtkjakaoimbmcjaaExtR
namespace Go.Proofs.Ytkjakaoimbmcjaa
set_option linter.unusedSimpArgs false
set_option linter.unusedVariables false
open Go.RowKit

theorem good_from {fr x to : Int} {l : List Pr} (h : Good fr to l) (hx : ∀ y ∈ l, x ≤ y.lo) : Good x to l := ⟨h.1, fun y hy => ⟨hx y hy, (h.2 y hy).2⟩⟩
theorem good_len {to : Int} : ∀ (l : List Pr) (fr : Int), Good fr to l → l = [] ∨ 2 * (l.length : Int) ≤ to - fr + 1
  | [], _, _ => .inl rfl
  | p :: B, fr, h => by
    obtain ⟨h1, h2, h3⟩ := good_cons.1 h
    rcases good_len B (p.hi + 1) (good_from h2 fun y hy => by have := h3 y hy; omega) with rfl | h4
    · right; simp; omega
    · right; rw [List.length_cons]; omega
theorem Good.len {fr to : Int} {l : List Pr} (h : Good fr to l) (h0 : 0 ≤ fr) (h1 : to ≤ 16777216) : l.length ≤ 10000000 := by
  rcases good_len l fr h with rfl | h
  · simp
  · omega
theorem exists_k (l : List Pr) (x : Int) : ∃ k, k ≤ l.length ∧ (∀ (j : Nat) (hj : j < l.length), j < k → (l[j]).hi ≤ x) ∧ (∀ hk : k < l.length, x < (l[k]).hi) := by
  cases h : l.findIdx? (fun p => decide (x < p.hi)) with
  | none =>
    refine ⟨l.length, Nat.le_refl _, fun j hj _ => ?_, fun hk => absurd hk (Nat.lt_irrefl _)⟩
    have := List.findIdx?_eq_none_iff.1 h _ (List.getElem_mem hj)
    simpa using this
  | some k =>
    obtain ⟨hk, h1, h2⟩ := List.findIdx?_eq_some_iff_getElem.1 h
    refine ⟨k, Nat.le_of_lt hk, fun j hj hjk => ?_, fun _ => by simpa using h1⟩
    simpa using h2 j hjk
/-- The bundle, with what holds of the runs. -/
def EG (w0 W : World) (q base : Nat) (fr to : Int) (v : Value) (l : List Pr) : Prop := EX w0 W q base fr to v l ∧ Good fr to l ∧ 0 ≤ fr ∧ to ≤ 16777216
theorem gTake (w0 : World) (q base : Nat) (fr to : Int) (v : Value) (l : List Pr) (W : World) (h : EG w0 W q base fr to v l) (n : Int) : Calls Try.prog 11 #[.pointer (some ⟨q, 0, none⟩), .int .i64 n] W fun e w' => ∃ x b v' l', e = .returned (.tuple #[.int .i64 x, .bool b]) ∧ Hid (EG w0 w' q base fr to v' l') ∧ Hid (Only (tch q v) W w') ∧ Hid ((b = false ∧ x = 0 ∧ l' = l ∧ (n < 1 ∨ g16 n = false ∨ l.findIdx? (fits n) = none)) ∨ ∃ (k : Nat) (hk : k < l.length), b = true ∧ x = (l[k]).lo ∧ 1 ≤ n ∧ g16 n = true ∧ l.findIdx? (fits n) = some k ∧ l' = takeK l k n hk) := by
  obtain ⟨hE, hG, h0, h1⟩ := h
  have no : (n < 1 ∨ g16 n = false ∨ l.findIdx? (fits n) = none) → Calls Try.prog 11 #[.pointer (some ⟨q, 0, none⟩), .int .i64 n] W fun e w' => ∃ x b v' l', e = .returned (.tuple #[.int .i64 x, .bool b]) ∧ Hid (EG w0 w' q base fr to v' l') ∧ Hid (Only (tch q v) W w') ∧ Hid ((b = false ∧ x = 0 ∧ l' = l ∧ (n < 1 ∨ g16 n = false ∨ l.findIdx? (fits n) = none)) ∨ ∃ (k : Nat) (hk : k < l.length), b = true ∧ x = (l[k]).lo ∧ 1 ≤ n ∧ g16 n = true ∧ l.findIdx? (fits n) = some k ∧ l' = takeK l k n hk) := fun hn => by
    refine (xTakeNo w0 q base fr to v l W hE (hG.okF h0 h1) (hG.len h0 h1) n hn).mono ?_
    rintro e w' ⟨rfl, hE', hX⟩
    exact ⟨0, false, v, l, rfl, hid ⟨hE'.out, hG, h0, h1⟩, hid (Only.ofExt hX.out), hid (.inl ⟨rfl, rfl, rfl, hn⟩)⟩
  by_cases hn : n < 1
  · exact no (.inl hn)
  · by_cases hg : g16 n = true
    · rcases Option.eq_none_or_eq_some (l.findIdx? (fits n)) with hf | ⟨k, hf⟩
      · exact no (.inr (.inr hf))
      · obtain ⟨hk, hfk, _⟩ := List.findIdx?_eq_some_iff_getElem.1 hf
        refine (xTake w0 q base fr to v l W hE (hG.okF h0 h1) (hG.len h0 h1) n (by omega) hg k hk hf _ rfl _ rfl).mono ?_
        rintro e w' ⟨v', rfl, hE', hO⟩
        exact ⟨_, true, v', _, rfl, hid ⟨hE'.out, hG.take k n hk (by omega) hfk, h0, h1⟩, hO, hid (.inr ⟨k, hk, rfl, rfl, by omega, hg, hf, rfl⟩)⟩
    · exact no (.inr (.inl (Bool.eq_false_iff.2 hg)))
theorem gGive (w0 : World) (q base : Nat) (fr to : Int) (v : Value) (l : List Pr) (W : World) (h : EG w0 W q base fr to v l) (at_ n : Int) (k : Nat) (hkl : k ≤ l.length) (hlow : ∀ (j : Nat) (hj : j < l.length), j < k → (l[j]).hi ≤ at_) (hhigh : ∀ hk : k < l.length, at_ < (l[k]).hi) : Calls Try.prog 13 #[.pointer (some ⟨q, 0, none⟩), .int .i64 at_, .int .i64 n] W fun e w' => ∃ b v' l', e = .returned (.bool b) ∧ Hid (EG w0 w' q base fr to v' l') ∧ Hid (Only (tch q v) W w') ∧ Hid ((b = false ∧ l' = l ∧ ¬ ([at_, n].all g16 = true ∧ 1 ≤ n ∧ fr ≤ at_ ∧ at_ ≤ to ∧ n ≤ to - at_ ∧ ∀ hk : k < l.length, at_ + n ≤ (l[k]).lo)) ∨ (b = true ∧ l' = giveL l k ⟨at_, at_ + n⟩ ∧ ([at_, n].all g16 = true ∧ 1 ≤ n ∧ fr ≤ at_ ∧ at_ ≤ to ∧ n ≤ to - at_ ∧ ∀ hk : k < l.length, at_ + n ≤ (l[k]).lo))) := by
  obtain ⟨hE, hG, h0, h1⟩ := h
  have no : ∀ {Wn : ¬ ([at_, n].all g16 = true ∧ 1 ≤ n ∧ fr ≤ at_ ∧ at_ ≤ to ∧ n ≤ to - at_ ∧ ∀ hk : k < l.length, at_ + n ≤ (l[k]).lo)}, (Calls Try.prog 13 #[.pointer (some ⟨q, 0, none⟩), .int .i64 at_, .int .i64 n] W fun e w' => e = .returned (.bool false) ∧ Ext W w') → Calls Try.prog 13 #[.pointer (some ⟨q, 0, none⟩), .int .i64 at_, .int .i64 n] W fun e w' => ∃ b v' l', e = .returned (.bool b) ∧ Hid (EG w0 w' q base fr to v' l') ∧ Hid (Only (tch q v) W w') ∧ Hid ((b = false ∧ l' = l ∧ ¬ ([at_, n].all g16 = true ∧ 1 ≤ n ∧ fr ≤ at_ ∧ at_ ≤ to ∧ n ≤ to - at_ ∧ ∀ hk : k < l.length, at_ + n ≤ (l[k]).lo)) ∨ (b = true ∧ l' = giveL l k ⟨at_, at_ + n⟩ ∧ ([at_, n].all g16 = true ∧ 1 ≤ n ∧ fr ≤ at_ ∧ at_ ≤ to ∧ n ≤ to - at_ ∧ ∀ hk : k < l.length, at_ + n ≤ (l[k]).lo))) := fun {Wn} hc => hc.mono (by
    rintro e w' ⟨rfl, hx⟩
    exact ⟨false, v, l, rfl, hid ⟨hE.ext hx, hG, h0, h1⟩, hid (Only.ofExt hx), hid (.inl ⟨rfl, rfl, Wn⟩)⟩)
  by_cases hg : [at_, n].all g16 = true
  · skip
    by_cases k0 : n < 1
    · exact no (Wn := fun c => by omega) (give_n2 q base fr to v l W hE.1 at_ n hg k0)
    by_cases k1 : at_ < fr
    · exact no (Wn := fun c => by omega) (give_n3 q base fr to v l W hE.1 at_ n hg (by omega) k1)
    by_cases k2 : to < at_
    · exact no (Wn := fun c => by omega) (give_n4 q base fr to v l W hE.1 at_ n hg (by omega) (by omega) k2)
    by_cases k3 : to - at_ < n
    · exact no (Wn := fun c => by omega) (give_n5 q base fr to v l W hE.1 at_ n hg h0 h1 (by omega) (by omega) (by omega) k3)
    have c1 : 1 ≤ n := by omega
    have c2 : fr ≤ at_ := by omega
    have c3 : at_ ≤ to := by omega
    have c4 : n ≤ to - at_ := by omega
    have c5 : fr ≤ at_ ∧ at_ < at_ + n ∧ at_ + n ≤ to := by omega
    by_cases hge : ∀ hk : k < l.length, at_ + n ≤ (l[k]).lo
    · have hGG : Good fr to (giveL l k ⟨at_, at_ + n⟩) := hG.give k ⟨at_, at_ + n⟩ hkl c5 hlow hge
      have hcc : ([at_, n].all g16 = true ∧ 1 ≤ n ∧ fr ≤ at_ ∧ at_ ≤ to ∧ n ≤ to - at_ ∧ ∀ hk : k < l.length, at_ + n ≤ (l[k]).lo) := ⟨hg, c1, c2, c3, c4, hge⟩
      refine (xGive w0 q base fr to v l W hE at_ n hg h0 h1 c1 c2 c3 c4 (hG.len h0 h1) (hG.mono at_) k hkl hlow hhigh hge _ rfl).mono ?_
      rintro e w' ⟨v', rfl, hE', hO⟩
      exact ⟨true, v', _, rfl, hid ⟨hE'.out, hGG, h0, h1⟩, hO, hid (.inr ⟨rfl, rfl, hcc⟩)⟩
    · obtain ⟨hk, hov⟩ := Classical.not_forall.1 hge
      exact no (Wn := fun c => hge c.2.2.2.2.2) (give_n6 q base fr to v l W hE.1 at_ n hg h0 h1 c1 c2 c3 c4 (hG.len h0 h1) (hG.mono at_) k hkl hlow hhigh hk (Int.not_le.1 hov))
  · exact no (Wn := fun c => hg c.1) (give_n1 q base fr to v l W hE.1 at_ n (Bool.eq_false_iff.2 hg))
theorem EG.nw {w0 W w' : World} {q base : Nat} {fr to : Int} {v : Value} {l : List Pr} (h : EG w0 W q base fr to v l) (x : Only (tch q v) W w') : Only (fun i => w0.heap.size ≤ i) W w' := x.mono (by
  rintro i (rfl | e)
  · exact Nat.le_trans h.1.2.2 h.1.1.2.2.2.2.1
  · exact Nat.le_trans h.1.2.2 (h.1.1.2.2.2.1.lt i e).1)
theorem EG.ext {w0 W w' : World} {q base : Nat} {fr to : Int} {v : Value} {l : List Pr} (h : EG w0 W q base fr to v l) (x : Ext W w') : EG w0 w' q base fr to v l := ⟨h.1.ext x, h.2⟩
theorem g16_mul (n : Int) : g16 (16 * n) = true := by unfold g16; rw [Int.mul_tmod_right]; rfl
theorem xNew (n : Int) (w : World) (h0 : 0 ≤ n) (h1 : n ≤ 1048576) : Calls Try.prog 9 #[.int .i64 0, .int .i64 (16 * n)] w fun e w' => ∃ q v l, e = .returned (.pointer (some ⟨q, 0, none⟩)) ∧ Hid (EG w w' q w.heap.size 0 (16 * n) v l) := by
  have hg : [(0 : Int), 16 * n].all g16 = true := by simp [g16_mul]; decide
  by_cases hn : n = 0
  · subst hn
    refine (enew0_ 0 (16 * 0) w hg (by decide) (by decide) (by decide)).mono ?_
    rintro e w' ⟨q, rfl, _, hx, hF⟩
    exact ⟨q, _, [], rfl, hid ⟨⟨hF, hx, Nat.le_refl _⟩, Good.nil _ _, by decide, by decide⟩⟩
  · refine (enew_ 0 (16 * n) w hg (by decide) (by omega) (by omega)).mono ?_
    rintro e w' ⟨q, v, rfl, _, hx, hF⟩
    exact ⟨q, v, _, rfl, hid ⟨⟨hF, hx, Nat.le_refl _⟩, Good.one (by omega), by decide, by omega⟩⟩
theorem quiet_index {P : Program} {o : Oper} {a : Act} {C : World → Prop} {K : Act → Prop} (t : TypeId) (x i : Operand) (ho : o.op = .indexAddr t x i) (ad : Addr) (len cap k s : Nat) (hx : a.eval x = .slice (some ad) len cap) (hi : a.eval i = .int .i64 k) (hk : k < len)
    (hu : P.underlying t = some (.slice (P.elem t))) (hs : ∀ w, (sizeOf (P.elem t)).run P w = .ok s w) (k1 : K (a.put o.dst (.pointer (some (ad.add (k * s)))))) : o.quiet P a C K :=
  quiet_run _ (fun w => by
    unfold execOp
    rw [ho]
    simp only [hx, hi, Sem.run_map, Sem.run_bind, Sem.run_pure, Go.run_indexAt_slice w t ad len cap .i64 k hu, if_pos (show (0 : Int) ≤ (k : Int) ∧ (k : Int) < (len : Int) by omega), hs, Result.andThen, Int.toNat_natCast]) k1

end Go.Proofs.Ytkjakaoimbmcjaa
