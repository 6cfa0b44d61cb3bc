/- Rows of anything. -/
import Derived.Test.YtgldlkoohfclpaaMBase
import Derived.Deep.Upon
namespace Go.Proofs.Ytgldlkoohfclpaa
set_option linter.unusedSimpArgs false
set_option linter.unusedVariables false
open Go.RowKit

open Go.Deep
/-- The cells of some, one behind the other. -/
def rowF {α : Type} (f : α → List Value) (zs : List α) : List Value := zs.flatMap f
section
variable {α : Type} {f : α → List Value} {n : Nat}
theorem rowF_nil : rowF f [] = [] := rfl
theorem rowF_cons (z : α) (zs : List α) : rowF f (z :: zs) = f z ++ rowF f zs := by simp [rowF]
theorem rowF_append (zs ys : List α) : rowF f (zs ++ ys) = rowF f zs ++ rowF f ys := by simp [rowF]
theorem rowF_snoc (zs : List α) (z : α) : rowF f (zs ++ [z]) = rowF f zs ++ f z := by simp [rowF]
theorem rowF_one (z : α) : rowF f [z] = f z := by simp [rowF]
theorem rowF_length (hf : ∀ z, (f z).length = n) (zs : List α) : (rowF f zs).length = zs.length * n := by
  induction zs with
  | nil => simp [rowF]
  | cons z zs ih => rw [rowF_cons, List.length_append, ih, hf, List.length_cons, Nat.succ_mul]; omega
theorem rowF_drop (hf : ∀ z, (f z).length = n) (zs : List α) (k : Nat) : (rowF f zs).drop (k * n) = rowF f (zs.drop k) := by
  induction zs generalizing k with
  | nil => simp [rowF]
  | cons z zs ih =>
    cases k with
    | zero => simp
    | succ k => rw [List.drop_succ_cons, ← ih k, rowF_cons, show (k + 1) * n = (f z).length + k * n by rw [hf, Nat.succ_mul]; omega, List.drop_length_add_append]
theorem rowF_take (hf : ∀ z, (f z).length = n) (zs : List α) (k : Nat) : (rowF f zs).take (k * n) = rowF f (zs.take k) := by
  induction zs generalizing k with
  | nil => simp [rowF]
  | cons z zs ih =>
    cases k with
    | zero => simp [rowF]
    | succ k => rw [List.take_succ_cons, rowF_cons, rowF_cons, ← ih k, show (k + 1) * n = (f z).length + k * n by rw [hf, Nat.succ_mul]; omega, List.take_length_add_append]
theorem rowF_at (hf : ∀ z, (f z).length = n) (zs : List α) (i j : Nat) (hi : i < zs.length) (hj : j < n) : (rowF f zs)[i * n + j]? = (f zs[i])[j]? := by
  induction zs generalizing i with
  | nil => simp at hi
  | cons z zs ih =>
    rw [rowF_cons]
    cases i with
    | zero => rw [Nat.zero_mul, Nat.zero_add, List.getElem?_append_left (by rw [hf]; exact hj)]; rfl
    | succ i =>
      rw [List.getElem?_append_right (by rw [hf, Nat.succ_mul]; omega), show (i + 1) * n + j - (f z).length = i * n + j by rw [hf, Nat.succ_mul]; omega, ih i (by simpa using hi)]
      rfl
theorem rowF_all {p : Value → Prop} (hp : ∀ z, ∀ u ∈ f z, p u) (zs : List α) : ∀ u ∈ rowF f zs, p u := by
  intro u hu
  obtain ⟨z, _, h⟩ := List.mem_flatMap.1 hu
  exact hp z u h
end
/-- A row that can be read. -/
def RdF {α : Type} (f : α → List Value) (w : World) (A : Option Addr) (zs : List α) : Prop := 0 < zs.length → ∃ b o, A = some ⟨b, o, none⟩ ∧ b < w.heap.size ∧ ∀ j u, (rowF f zs)[j]? = some u → w.cell? ⟨b, o + j, none⟩ = some u
section
variable {α : Type} {f : α → List Value} {n : Nat} {w w' : World} {A : Option Addr} {zs : List α}
theorem RdF.only {S : Nat → Prop} (h : RdF f w A zs) (x : Only S w w') (hn : ∀ b o, A = some ⟨b, o, none⟩ → ¬ S b) : RdF f w' A zs := fun h0 => by
  obtain ⟨b, o, e, hb, hc⟩ := h h0
  exact ⟨b, o, e, Nat.lt_of_lt_of_le hb x.size, fun j u hj => (x.cells b _ hb (hn b o e)).trans (hc j u hj)⟩
theorem RdF.ext (h : RdF f w A zs) (x : Ext w w') : RdF f w' A zs := h.only (Only.ofExt (S := fun _ => False) x) (fun _ _ _ => id)
theorem RdF.nil (w : World) (A : Option Addr) : RdF f w A [] := fun h => absurd h (Nat.lt_irrefl _)
theorem RdF.take (hf : ∀ z, (f z).length = n) (h : RdF f w A zs) (k : Nat) : RdF f w A (zs.take k) := fun h0 => by
  obtain ⟨b, o, hA, hb, hc⟩ := h (by rw [List.length_take] at h0; omega)
  refine ⟨b, o, hA, hb, fun j u hj => hc j u ?_⟩
  rw [← rowF_take hf, List.getElem?_take] at hj
  split at hj
  · exact hj
  · cases hj
theorem RdF.drop (hf : ∀ z, (f z).length = n) {g o : Nat} (h : RdF f w (some ⟨g, o, none⟩) zs) (k : Nat) : RdF f w (some ⟨g, o + k * n, none⟩) (zs.drop k) := fun h0 => by
  obtain ⟨b, o', hA, hb, hc⟩ := h (by rw [List.length_drop] at h0; omega)
  obtain ⟨rfl, rfl⟩ : g = b ∧ o = o' := by simpa using hA
  refine ⟨g, o + k * n, rfl, hb, fun j u hj => ?_⟩
  rw [← rowF_drop hf, List.getElem?_drop] at hj
  have := hc (k * n + j) u hj
  rwa [← Nat.add_assoc] at this
theorem RdF.elem (hf : ∀ z, (f z).length = n) (h : RdF f w A zs) {k : Nat} (hk : k < zs.length) (z : α) (hz : zs[k] = z) : ∃ b o, A = some ⟨b, o, none⟩ ∧ b < w.heap.size ∧ w.rangeAt b (o + k * n) (f z) := by
  obtain ⟨b, o, hA, hb, hc⟩ := h (by omega)
  refine ⟨b, o, hA, hb, fun j v hj => ?_⟩
  have hlt : j < n := by have := (List.getElem?_eq_some_iff.1 hj).1; rwa [hf] at this
  rw [Nat.add_assoc]
  exact hc _ v (by rw [rowF_at hf zs k j hk hlt, hz]; exact hj)
theorem ownsAt.rdF {base m c : Nat} {e : TypeId} (h : ownsAt w base e n (.slice A m c) m (rowF f zs)) (hm : zs.length = m) : RdF f w A zs := fun h0 => by
  obtain ⟨g, o, e, _, hg, hc, _⟩ := h.at_ rfl (by omega)
  exact ⟨g, _, e, hg, hc⟩
theorem RdF.slAtN (hf : ∀ z, (f z).length = n) (h : RdF f w A zs) : SlAtN w A n (zs.map f) := fun h0 => by
  rw [List.length_map] at h0
  obtain ⟨b, o, hA, hb, hc⟩ := h h0
  refine ⟨b, o, hA, hb, fun i hi j hj => ?_⟩
  rw [List.length_map] at hi
  rw [List.getElem_map]
  have h1 := rowF_at hf zs i j hi hj
  obtain ⟨u, hu⟩ : ∃ u, (f zs[i])[j]? = some u := ⟨(f zs[i])[j]'(by rw [hf]; exact hj), List.getElem?_eq_getElem _⟩
  rw [hu] at h1 ⊢
  have := hc _ u h1
  rwa [← Nat.add_assoc] at this
theorem rdF_of (hf : ∀ z, (f z).length = n) (hn : 0 < n) (h : SlAtN w A n (zs.map f)) : RdF f w A zs := fun h0 => by
  obtain ⟨b, o, hA, hb, hc⟩ := h (by rw [List.length_map]; exact h0)
  refine ⟨b, o, hA, hb, fun j u hj => ?_⟩
  have hjl : j < zs.length * n := by have := (List.getElem?_eq_some_iff.1 hj).1; rwa [rowF_length hf] at this
  have hi : j / n < zs.length := (Nat.div_lt_iff_lt_mul hn).2 hjl
  have hm : j % n < n := Nat.mod_lt _ hn
  have e : j / n * n + j % n = j := by rw [Nat.mul_comm]; exact Nat.div_add_mod j n
  have h2 := hc (j / n) (by rw [List.length_map]; exact hi) (j % n) hm
  rw [List.getElem_map, ← rowF_at hf zs _ _ hi hm, e, hj, Nat.add_assoc, e] at h2
  exact h2
end
/-- What is asked of an element's type. -/
def InfoN (P : Program) (e : TypeId) (n by_ : Nat) : Prop := ∃ i z, P.info? e = some i ∧ i.zero = some z ∧ i.size = n ∧ i.bytes = by_ ∧ z.cells.size = n
theorem wp_app_row {P : Program} {α : Type} {f : α → List Value} {n by_ : Nat} {e ts : TypeId} {o : Oper} {a : Act} {w : World} {K : Act → World → Prop} {Q : Exit → Act → World → Prop} (hf : ∀ z, (f z).length = n) (hn : 0 < n) (h1 : ∀ z, ∀ u ∈ f z, u.oneCell' = true) (hu : P.underlying ts = some (.slice e)) (hi : InfoN P e n by_) (s x : Operand)
    (ho : o.op = .call { callee := .builtin .append, args := #[s, x], argTypes := #[ts, ts] })
    (bh : Nat) (v : Value) (m : Nat) (l : List Value) (hs : a.eval s = v) (hown : ownsAt w bh e n v m l)
    (A : Option Addr) (k c : Nat) (lm : List α) (hx : a.eval x = .slice A k c) (hk : lm.length = k) (hr : RdF f w A lm)
    (h63 : m + k ≤ maxLen) (h64 : (m + k) * by_ ≤ 140737488355328) (hbase : bh ≤ w.heap.size)
    (h : ∀ v' w', ownsAt w' bh e n v' (m + k) (l ++ rowF f lm) → w.grownBy w' v.ownBlock → (v'.ownBlock = v.ownBlock ∨ ∃ g, v'.ownBlock = some g ∧ w.heap.size ≤ g) → K (a.put o.dst v') w') : o.wp P a w K Q := by
  obtain ⟨i0, z0, hi0, hz0, hz2, hz3, hz1⟩ := hi
  subst hk
  rcases Nat.eq_zero_or_pos lm.length with h0 | h0
  · have hl0 : lm = [] := List.eq_nil_of_length_eq_zero h0
    subst hl0
    obtain ⟨A', c', rfl, hc', _⟩ := hown.shape
    have hsrc : Src P i0.size ts (.slice A 0 c) 0 [] w := by
      rcases A with _ | ad
      · exact Src.ofNil w hu c
      · exact Src.ofSlice w hu ad 0 c [] (by simp) (fun j u hj => by simp at hj) (fun _ h => nomatch h)
    have hrun := run_append_nothing (P := P) w ts ts o.type e i0 hu hi0 A' m c' hc' (.slice A 0 c) hsrc
    unfold Oper.wp execOp
    simp only [ho, resolve, invoke, builtin, Sem.run_bind, Sem.run_pure, Result.andThen_ok, List.map_toArray, List.map_cons, List.map_nil, hs, hx, List.length_nil, hrun]
    exact h _ w (by rw [rowF_nil, List.append_nil]; exact hown) ⟨rfl, rfl, rfl, Nat.le_refl _, fun _ _ _ => rfl⟩ (.inl rfl)
  · obtain ⟨b, off, rfl, hb, hc⟩ := hr h0
    refine wp_append_at w s x ts ho bh e i0 z0 n by_ hu hi0 hz0 hz2 hz3 hz1 hn v m l hs hown ⟨b, off, none⟩ lm.length c (rowF f lm) hx (rowF_length hf lm) (fun j u hj => by rw [Addr.add_lit]; exact hc j u hj) (rowF_all h1 lm) h63 h64 hbase h0 ?_
    intro v' w' h1 h2 h3
    exact h v' w' h1 h2 h3
theorem infoN_of {P : Program} {e : TypeId} {n b : Nat} (h : (P.info? e).map (fun i => (i.zero.map (fun z => z.cells.size), i.size, i.bytes)) = some (some n, n, b)) : InfoN P e n b := by
  cases e1 : P.info? e with
  | none => rw [e1] at h; cases h
  | some i =>
    rw [e1] at h
    simp only [Option.map_some, Option.some.injEq, Prod.mk.injEq] at h
    obtain ⟨h1, h2, h3⟩ := h
    cases e2 : i.zero with
    | none => rw [e2] at h1; cases h1
    | some z =>
      rw [e2] at h1
      exact ⟨i, z, e1, e2, h2, h3, by simpa using h1⟩

end Go.Proofs.Ytgldlkoohfclpaa
