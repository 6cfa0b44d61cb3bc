/- Layer 18: contracts of registers: Clear. -/
import Derived.Test.YtjepkdfiihgheaaRegA
namespace Go.Proofs.Ytjepkdfiihgheaa
set_option linter.unusedSimpArgs false
set_option linter.unusedVariables false
open Go.RowKit

theorem zeroCells_caps (n : Nat) : (Builtin.zeroCells nullC.cells.toArray n).toList = capsList n fun _ => nullC := by
  apply List.ext_getElem?
  intro j
  by_cases h : j < n * 6
  · have e : j = j / 6 * 6 + j % 6 := by omega
    have e2 := capsList_at n (fun _ => nullC) (j / 6) (j % 6) (by omega) (by omega)
    rw [← e] at e2
    rw [e2]
    have hs : nullC.cells.toArray.size = 6 := rfl
    have hm : j % 6 = 0 ∨ j % 6 = 1 ∨ j % 6 = 2 ∨ j % 6 = 3 ∨ j % 6 = 4 ∨ j % 6 = 5 := by omega
    rw [Array.getElem?_toList]
    simp only [Builtin.zeroCells, hs, Array.getElem?_map]
    rw [Array.getElem?_range]
    rw [if_pos h]
    rcases hm with hm | hm | hm | hm | hm | hm <;> simp [hm, Cap.cells]
  · rw [List.getElem?_eq_none (by simp [Builtin.zeroCells, Cap.cells]; omega), List.getElem?_eq_none (by rw [capsList_length]; omega)]
theorem run_clear_caps {P : Program} (w : World) (t e ty : TypeId) (ht : P.underlying t = some (.slice e)) (hv : ∀ w, (zeroValue e).run P w = .ok (.agg nullC.cells.toArray) w) (b o n c : Nat) (hn : 0 < n) (hth : w.there b o (n * 6)) :
    (Builtin.clear_ #[t] ty #[.slice (some ⟨b, o, none⟩) n c]).run P w = .ok (.tuple #[]) (w.setCells b o (capsList n fun _ => nullC)) := by
  have hl := capsList_length n fun _ => nullC
  have hst := run_storeCells_cells (P := P) b o (capsList n fun _ => nullC) 0 w (fun j hj => (hth j (by omega)).1) (fun j hj => (hth j (by omega)).2) (capsList_one _ _)
  simp only [Nat.add_zero] at hst
  obtain ⟨m, rfl⟩ : ∃ m, n = m + 1 := ⟨n - 1, by omega⟩
  have hz := zeroCells_caps (m + 1)
  unfold Builtin.clear_
  simp [Sem.run_bind, run_underlying ht w, hv, Value.cells, hz, hst, Sem.run_pure]
theorem Caps.fill {w : World} {b o n : Nat} {L : Nat → Cap} (h : Caps w b o n L) {f m : Nat} (hm : f + m ≤ n) (c : Cap) : Caps (w.setCells b (o + f * 6) (capsList m fun _ => c)) b o n (fun i => if f ≤ i ∧ i < f + m then c else L i) := fun i hi => by
  dsimp only
  by_cases e : f ≤ i ∧ i < f + m
  · rw [if_pos e]
    have hsub : Row w b (o + f * 6) (capsList m fun k => L (f + k)) := by
      refine Caps.row (o := o + f * 6) (n := m) (L := fun k => L (f + k)) (fun k hk => ?_) (by omega)
      have := h (f + k) (by omega)
      rwa [show o + f * 6 + k * 6 = o + (f + k) * 6 by omega]
    have := Caps.ofRow (hsub.put (us := capsList m fun _ => c) (by rw [capsList_length, capsList_length])) (i - f) (by omega)
    rwa [show o + f * 6 + (i - f) * 6 = o + i * 6 by omega] at this
  · rw [if_neg e]
    refine (h i hi).apart (.inr ?_)
    rw [capsList_length, cells_length]
    omega
def clrL (L : Nat → Cap) (f t : Int) : Nat → Cap := fun i => if f ≤ (i : Int) ∧ (i : Int) < t then nullC else L i
theorem setCells_zero {w : World} {b o : Nat} : w.setCells b o [] = w := rfl
theorem sliceArr8 : ∀ f : Nat, f < 8 → ∀ t : Nat, t < 9 → f < t → ∀ (q : Nat) (w : World), (Instr.sliceAt 45 (.pointer (some ⟨q, 0, none⟩)) (some (.int .i64 (f : Int))) (some (.int .i64 (t : Int))) none).run Try.prog w = .ok (.slice (some ⟨q, f * 6, none⟩) (t - f) (8 - f)) w := by
  intro f hf t ht
  match f, hf, t, ht with
  | 0, _, 0, _ => intro h q w; omega
  | 0, _, 1, _ => intro h q w; kernel_rfl
  | 0, _, 2, _ => intro h q w; kernel_rfl
  | 0, _, 3, _ => intro h q w; kernel_rfl
  | 0, _, 4, _ => intro h q w; kernel_rfl
  | 0, _, 5, _ => intro h q w; kernel_rfl
  | 0, _, 6, _ => intro h q w; kernel_rfl
  | 0, _, 7, _ => intro h q w; kernel_rfl
  | 0, _, 8, _ => intro h q w; kernel_rfl
  | 1, _, 0, _ => intro h q w; omega
  | 1, _, 1, _ => intro h q w; omega
  | 1, _, 2, _ => intro h q w; kernel_rfl
  | 1, _, 3, _ => intro h q w; kernel_rfl
  | 1, _, 4, _ => intro h q w; kernel_rfl
  | 1, _, 5, _ => intro h q w; kernel_rfl
  | 1, _, 6, _ => intro h q w; kernel_rfl
  | 1, _, 7, _ => intro h q w; kernel_rfl
  | 1, _, 8, _ => intro h q w; kernel_rfl
  | 2, _, 0, _ => intro h q w; omega
  | 2, _, 1, _ => intro h q w; omega
  | 2, _, 2, _ => intro h q w; omega
  | 2, _, 3, _ => intro h q w; kernel_rfl
  | 2, _, 4, _ => intro h q w; kernel_rfl
  | 2, _, 5, _ => intro h q w; kernel_rfl
  | 2, _, 6, _ => intro h q w; kernel_rfl
  | 2, _, 7, _ => intro h q w; kernel_rfl
  | 2, _, 8, _ => intro h q w; kernel_rfl
  | 3, _, 0, _ => intro h q w; omega
  | 3, _, 1, _ => intro h q w; omega
  | 3, _, 2, _ => intro h q w; omega
  | 3, _, 3, _ => intro h q w; omega
  | 3, _, 4, _ => intro h q w; kernel_rfl
  | 3, _, 5, _ => intro h q w; kernel_rfl
  | 3, _, 6, _ => intro h q w; kernel_rfl
  | 3, _, 7, _ => intro h q w; kernel_rfl
  | 3, _, 8, _ => intro h q w; kernel_rfl
  | 4, _, 0, _ => intro h q w; omega
  | 4, _, 1, _ => intro h q w; omega
  | 4, _, 2, _ => intro h q w; omega
  | 4, _, 3, _ => intro h q w; omega
  | 4, _, 4, _ => intro h q w; omega
  | 4, _, 5, _ => intro h q w; kernel_rfl
  | 4, _, 6, _ => intro h q w; kernel_rfl
  | 4, _, 7, _ => intro h q w; kernel_rfl
  | 4, _, 8, _ => intro h q w; kernel_rfl
  | 5, _, 0, _ => intro h q w; omega
  | 5, _, 1, _ => intro h q w; omega
  | 5, _, 2, _ => intro h q w; omega
  | 5, _, 3, _ => intro h q w; omega
  | 5, _, 4, _ => intro h q w; omega
  | 5, _, 5, _ => intro h q w; omega
  | 5, _, 6, _ => intro h q w; kernel_rfl
  | 5, _, 7, _ => intro h q w; kernel_rfl
  | 5, _, 8, _ => intro h q w; kernel_rfl
  | 6, _, 0, _ => intro h q w; omega
  | 6, _, 1, _ => intro h q w; omega
  | 6, _, 2, _ => intro h q w; omega
  | 6, _, 3, _ => intro h q w; omega
  | 6, _, 4, _ => intro h q w; omega
  | 6, _, 5, _ => intro h q w; omega
  | 6, _, 6, _ => intro h q w; omega
  | 6, _, 7, _ => intro h q w; kernel_rfl
  | 6, _, 8, _ => intro h q w; kernel_rfl
  | 7, _, 0, _ => intro h q w; omega
  | 7, _, 1, _ => intro h q w; omega
  | 7, _, 2, _ => intro h q w; omega
  | 7, _, 3, _ => intro h q w; omega
  | 7, _, 4, _ => intro h q w; omega
  | 7, _, 5, _ => intro h q w; omega
  | 7, _, 6, _ => intro h q w; omega
  | 7, _, 7, _ => intro h q w; omega
  | 7, _, 8, _ => intro h q w; kernel_rfl
theorem clear_parts {w : World} {q : Nat} {L : Nat → Cap} (h : Fil w q L) (x y : Int) (f t : Nat) (hf : max x 0 = (f : Int)) (ht : min y 8 = (t : Int)) (hft : f < t) :
    (∀ ty c, (Builtin.clear_ #[30] ty #[.slice (some ⟨q, f * 6, none⟩) (t - f) c]).run Try.prog w = .ok (.tuple #[]) (w.setCells q (f * 6) (capsList (t - f) fun _ => nullC))) ∧
      Hid (Fil (w.setCells q (f * 6) (capsList (t - f) fun _ => nullC)) q (clrL L x y)) := by
  have ht8 : t ≤ 8 := by omega
  have hz : ∀ w, (zeroValue 29).run Try.prog w = .ok (.agg nullC.cells.toArray) w := fun _ => by kernel_rfl
  have hth : w.there q (f * 6) ((t - f) * 6) := fun j hj => by
    have := Caps.there h (by omega) (f * 6 + j) (by omega)
    rwa [Nat.zero_add] at this
  refine ⟨fun ty c => run_clear_caps w _ 29 ty Try.underlying30 hz q (f * 6) (t - f) c (by omega) hth, ?_⟩
  have := Caps.fill h (f := f) (m := t - f) (by omega) nullC
  rw [Nat.zero_add] at this
  refine this.congr fun i hi => ?_
  unfold clrL
  by_cases e : f ≤ i ∧ i < f + (t - f)
  · rw [if_pos e, if_pos (by omega)]
  · rw [if_neg e, if_neg (by omega)]
set_option maxHeartbeats 2000000 in
theorem clear_ (q : Nat) (L : Nat → Cap) (x y : Int) (w : World) (h : Fil w q L) :
    Calls Try.prog 12 #[.pointer (some ⟨q, 0, none⟩), .int .i64 x, .int .i64 y] w fun e w' => (∃ v, e = .returned v) ∧ Fil w' q (clrL L x y) ∧ Only (· = q) w w' := by
  have H := hid h
  by_cases hxy : max x 0 < min y 8
  · by_cases hx : x < 0 <;> by_cases hy : 8 < y
    · skip
      obtain ⟨hcl, HF⟩ := clear_parts h x y 0 8 (by omega) (by omega) (by omega)
      try simp only [Nat.zero_mul, Nat.sub_zero] at hcl HF
      clear h hxy
      go_enter Try.func12, Try.ntmps12
      go_wp2
      go_end0
      exact ⟨⟨_, rfl⟩, HF.out, Only.setCells (S := (· = q)) (.inl rfl) _ _ (Only.refl _ _)⟩
    · obtain ⟨t, rfl⟩ := Int.eq_ofNat_of_zero_le (show 0 ≤ y by omega)
      have ht : 0 < t := by omega
      obtain ⟨hcl, HF⟩ := clear_parts h x (t : Int) 0 t (by omega) (by omega) (by omega)
      try simp only [Nat.zero_mul, Nat.sub_zero] at hcl HF
      clear h hxy
      go_enter Try.func12, Try.ntmps12
      go_wp2
      go_end0
      exact ⟨⟨_, rfl⟩, HF.out, Only.setCells (S := (· = q)) (.inl rfl) _ _ (Only.refl _ _)⟩
    · obtain ⟨f, rfl⟩ := Int.eq_ofNat_of_zero_le (show 0 ≤ x by omega)
      have hf : f < 8 := by omega
      obtain ⟨hcl, HF⟩ := clear_parts h (f : Int) y f 8 (by omega) (by omega) (by omega)
      try simp only [Nat.zero_mul, Nat.sub_zero] at hcl HF
      have hsl := sliceArr8 f (by omega) 8 (by omega) (by omega) q w
      try simp only [Int.cast_ofNat_Int] at hsl
      clear h hxy
      go_enter Try.func12, Try.ntmps12
      go_wp2
      go_end0
      exact ⟨⟨_, rfl⟩, HF.out, Only.setCells (S := (· = q)) (.inl rfl) _ _ (Only.refl _ _)⟩
    · obtain ⟨f, rfl⟩ := Int.eq_ofNat_of_zero_le (show 0 ≤ x by omega)
      obtain ⟨t, rfl⟩ := Int.eq_ofNat_of_zero_le (show 0 ≤ y by omega)
      have hf : f < t := by omega
      have ht : t ≤ 8 := by omega
      obtain ⟨hcl, HF⟩ := clear_parts h (f : Int) (t : Int) f t (by omega) (by omega) (by omega)
      try simp only [Nat.zero_mul, Nat.sub_zero] at hcl HF
      have hsl := sliceArr8 f (by omega) t (by omega) (by omega) q w
      try simp only [Int.cast_ofNat_Int] at hsl
      clear h hxy
      go_enter Try.func12, Try.ntmps12
      go_wp2
      go_end0
      exact ⟨⟨_, rfl⟩, HF.out, Only.setCells (S := (· = q)) (.inl rfl) _ _ (Only.refl _ _)⟩
  · have e : Fil w q (clrL L x y) := Caps.congr h (fun i hi => by unfold clrL; rw [if_neg (by omega)])
    have E := hid e
    clear e h
    by_cases hx : x < 0
    · by_cases hy : 8 < y
      · omega
      · have hc : ¬ 0 < y := by omega
        clear hxy
        go_enter Try.func12, Try.ntmps12
        go_wp2
        go_end0
        exact ⟨⟨_, rfl⟩, E.out, Only.refl _ _⟩
    · by_cases hy : 8 < y
      · have hc : ¬ x < 8 := by omega
        clear hxy
        go_enter Try.func12, Try.ntmps12
        go_wp2
        go_end0
        exact ⟨⟨_, rfl⟩, E.out, Only.refl _ _⟩
      · have hc : ¬ x < y := by omega
        clear hxy
        go_enter Try.func12, Try.ntmps12
        go_wp2
        go_end0
        exact ⟨⟨_, rfl⟩, E.out, Only.refl _ _⟩


end Go.Proofs.Ytjepkdfiihgheaa
