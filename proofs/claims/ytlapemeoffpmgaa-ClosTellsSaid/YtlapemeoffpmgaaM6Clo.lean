/- M6Clo: CapM Caps Der DerM -/
import Derived.Test.YtlapemeoffpmgaaMBase
namespace Go.Proofs.Ytlapemeoffpmgaa
set_option maxRecDepth 100000
set_option linter.unusedSimpArgs false
set_option linter.unusedVariables false
open Go.RowKit

theorem low32_eq (n : Int) (h0 : -9223372036854775808 ≤ n) (h1 : n ≤ 9223372036854775807) : low32 n = n % 4294967296 := by
  have hb : (BitVec.ofInt 64 n).toNat = (n % 18446744073709551616).toNat := by
    rw [BitVec.toNat_ofInt]; rfl
  show IntKind.i64.wrap ((BitVec.ofInt 64 n &&& BitVec.ofInt 64 4294967295).toNat : Int) = _
  rw [BitVec.toNat_and, hb, show (BitVec.ofInt 64 4294967295).toNat = 2 ^ 32 - 1 from by decide, Nat.and_two_pow_sub_one_eq_mod, IntKind.wrap_i64]
  omega
theorem low32_bd (n : Int) (h0 : -9223372036854775808 ≤ n) (h1 : n ≤ 9223372036854775807) : 0 ≤ low32 n ∧ low32 n ≤ 4294967295 := by
  rw [low32_eq n h0 h1]; omega
theorem low32_small (n : Int) (h0 : 0 ≤ n) (h1 : n ≤ 4294967295) : low32 n = n := by
  rw [low32_eq n (by omega) (by omega)]; omega
theorem wf64 {n : Int} (h : (Lit.int .i64 n).wf = true) : -9223372036854775808 ≤ n ∧ n ≤ 9223372036854775807 := by
  simpa [Lit.wf, IntKind.min, IntKind.max, IntKind.signed, IntKind.bits] using h
theorem wfu32 {n : Int} (h : (Lit.int .u32 n).wf = true) : 0 ≤ n ∧ n ≤ 4294967295 := by
  simpa [Lit.wf, IntKind.min, IntKind.max, IntKind.signed, IntKind.bits] using h
theorem wrap64_id {x : Int} (h0 : -9223372036854775808 ≤ x) (h1 : x ≤ 9223372036854775807) : wrap64 x = x := by simp [wrap64]; omega
theorem rightC_bd {c : Cap} (h : rightC c = true) : 0 ≤ c.base ∧ c.base ≤ 4294967295 ∧ 0 ≤ c.top ∧ c.top ≤ 4294967295 ∧ 0 ≤ c.at_ ∧ c.at_ ≤ 4294967295 ∧ 0 ≤ c.perms ∧ c.perms ≤ 127 ∧ 0 ≤ c.type ∧ c.type ≤ 255 ∧ (c.tag = true → c.base ≤ c.top ∧ c.top ≤ 16777216) := by
  simp [rightC, holdsB, rightB] at h
  obtain ⟨⟨⟨⟨⟨⟨⟨h1, h2⟩, h3, h4⟩, h5, h6⟩, h7, h8⟩, h9⟩, h10⟩, h11⟩ := h
  refine ⟨h1, h2, h3, h4, h5, h6, h7, h8, h9, h10, fun ht => ?_⟩
  rcases h11 with h | h
  · rw [ht] at h; cases h
  · exact h
theorem rightC_mk {c : Cap} (h : 0 ≤ c.base ∧ c.base ≤ 4294967295 ∧ 0 ≤ c.top ∧ c.top ≤ 4294967295 ∧ 0 ≤ c.at_ ∧ c.at_ ≤ 4294967295 ∧ 0 ≤ c.perms ∧ c.perms ≤ 127 ∧ 0 ≤ c.type ∧ c.type ≤ 255 ∧ (c.tag = true → c.base ≤ c.top ∧ c.top ≤ 16777216)) : rightC c = true := by
  obtain ⟨h1, h2, h3, h4, h5, h6, h7, h8, h9, h10, h11⟩ := h
  simp only [rightC, holdsB, rightB, h1, h2, h3, h4, h5, h6, h7, h8, h9, h10, decide_true, Bool.and_true, Bool.true_and]
  cases ht : c.tag
  · rfl
  · have := h11 ht
    simp [this.1, this.2]
theorem underC_bd {c d : Cap} (h : underC c d = true) : d.base ≤ c.base ∧ c.base ≤ d.top ∧ d.base ≤ c.top ∧ c.top ≤ d.top ∧ c.base ≤ c.top ∧ hasB d.perms c.perms = true := by
  simp only [underC, extUnder, holdsB, Bool.and_eq_true, decide_eq_true_eq] at h
  obtain ⟨⟨⟨⟨h1, h2⟩, h3, h4⟩, h5⟩, h6⟩ := h
  exact ⟨h1, h2, h3, h4, h5, h6⟩
theorem underC_mk {c d : Cap} (h : d.base ≤ c.base ∧ c.top ≤ d.top ∧ c.base ≤ c.top ∧ hasB d.perms c.perms = true) : underC c d = true := by
  obtain ⟨h1, h2, h3, h4⟩ := h
  have h5 : c.base ≤ d.top := by omega
  have h6 : d.base ≤ c.top := by omega
  simp only [underC, extUnder, holdsB, h1, h2, h3, h4, h5, h6, decide_true, Bool.and_true]
theorem modR_eq (n : Int) (h0 : -9223372036854775808 ≤ n) (h1 : n ≤ 9223372036854775807) : modR n = n % 4294967296 := by
  have ht : n.tmod 4294967296 = if 0 ≤ n then n % 4294967296 else -(-n % 4294967296) := by
    split
    · exact Int.tmod_eq_emod_of_nonneg (by omega)
    · rw [← Int.neg_neg n, Int.neg_tmod, Int.tmod_eq_emod_of_nonneg (by omega), Int.neg_neg]
  simp only [modR, ht]
  split <;> split <;> (try rw [wrap64_id (by omega) (by omega)]) <;> omega
theorem modR_low (n : Int) (h0 : -9223372036854775808 ≤ n) (h1 : n ≤ 9223372036854775807) : modR n = low32 n := by
  rw [modR_eq n h0 h1, low32_eq n h0 h1]
theorem wrap64_bd (x : Int) : -9223372036854775808 ≤ wrap64 x ∧ wrap64 x ≤ 9223372036854775807 := by
  simp only [wrap64]; constructor <;> (try split) <;> omega
theorem wrap64_mod (x : Int) : wrap64 x % 4294967296 = x % 4294967296 := by
  simp only [wrap64]; (try split) <;> omega
theorem offR_off (c : Cap) (b0 : -9223372036854775808 ≤ c.base) (b1 : c.base ≤ 9223372036854775807) (a0 : -9223372036854775808 ≤ c.at_) (a1 : c.at_ ≤ 9223372036854775807) : offR c = offC c := by
  simp only [offR, offC]
  have hw := wrap64_bd (c.at_ - c.base)
  have hm := wrap64_mod (c.at_ - c.base)
  rw [modR_eq _ a0 a1, modR_eq _ b0 b1, low32_eq _ hw.1 hw.2, hm, wrap64_id (by omega) (by omega), modR_eq _ (by omega) (by omega)]
  omega
theorem inR_in (c : Cap) (x n : Int) : inR c x n = inC c x n := by
  by_cases h : 0 ≤ x
  · simp only [inR, inC, Int.max_eq_left h]
  · simp [inR, inC, h]
theorem hasN : ∀ p : Nat, p < 128 → ∀ q : Nat, q < 128 → hasR (p : Int) (q : Int) = hasB (p : Int) (q : Int) := by decide +kernel
theorem hasR_has (p q : Int) : hasR p q = hasB p q := by
  cases hp : rightB p
  · simp [hasR, hasB, hp]
  cases hq : rightB q
  · simp [hasR, hasB, hq]
  obtain ⟨p0, p1⟩ := rightB_iff.1 hp
  obtain ⟨q0, q1⟩ := rightB_iff.1 hq
  obtain ⟨m, rfl⟩ := Int.eq_ofNat_of_zero_le p0
  obtain ⟨k, rfl⟩ := Int.eq_ofNat_of_zero_le q0
  exact hasN m (by omega) k (by omega)
theorem underR_under (c d : Cap) : underR c d = underC c d := by
  simp only [underR, underC, extUnder, holdsB, hasR_has]
  cases hasB d.perms c.perms
  · simp
  · simp only [Bool.and_true]
    rw [Bool.eq_iff_iff]; simp; omega
theorem hasR_iff {p q : Int} : hasR p q = true ↔ (∀ i, i < 7 → bitB q i = true → bitB p i = true) ∧ rightB p = true ∧ rightB q = true := by
  simp only [hasR, Bool.and_eq_true, List.all_eq_true, List.mem_range, Bool.not_eq_true', Bool.and_eq_false_iff, Bool.not_eq_false', and_assoc]
  refine and_congr ⟨fun h i hi hq => ?_, fun h i hi => ?_⟩ Iff.rfl
  · rcases h i hi with h | h
    · rw [h] at hq; cases hq
    · simpa using h
  · cases hq : bitB q i
    · exact Or.inl rfl
    · exact Or.inr (by simpa using h i hi hq)
theorem hasB_trans {p q r : Int} (h1 : hasB p q = true) (h2 : hasB q r = true) : hasB p r = true := by
  rw [← hasR_has] at *
  obtain ⟨a1, a2, a3⟩ := hasR_iff.1 h1
  obtain ⟨b1, b2, b3⟩ := hasR_iff.1 h2
  exact hasR_iff.2 ⟨fun i hi h => a1 i hi (b1 i hi h), a2, b3⟩
theorem hasN_refl : ∀ p : Nat, p < 128 → hasB (p : Int) (p : Int) = true := by decide +kernel
theorem hasB_refl {p : Int} (h0 : 0 ≤ p) (h1 : p ≤ 127) : hasB p p = true := by
  obtain ⟨m, rfl⟩ := Int.eq_ofNat_of_zero_le h0
  exact hasN_refl m (by omega)
theorem hasN_all : ∀ p : Nat, p < 128 → hasB 127 (p : Int) = true := by decide +kernel
theorem hasB_all {p : Int} (h0 : 0 ≤ p) (h1 : p ≤ 127) : hasB 127 p = true := by
  obtain ⟨m, rfl⟩ := Int.eq_ofNat_of_zero_le h0
  exact hasN_all m (by omega)
theorem hasN_anti : ∀ p : Nat, p < 128 → ∀ q : Nat, q < 128 → hasB (p : Int) (q : Int) = true → hasB (q : Int) (p : Int) = true → p = q := by decide +kernel
theorem hasB_right {p q : Int} (h : hasB p q = true) : (0 ≤ p ∧ p ≤ 127) ∧ 0 ≤ q ∧ q ≤ 127 := by
  simp only [hasB, Bool.and_eq_true] at h
  exact ⟨rightB_iff.1 h.1.1, rightB_iff.1 h.1.2⟩
theorem hasB_anti {p q : Int} (h1 : hasB p q = true) (h2 : hasB q p = true) : p = q := by
  obtain ⟨⟨p0, p1⟩, q0, q1⟩ := hasB_right h1
  obtain ⟨m, rfl⟩ := Int.eq_ofNat_of_zero_le p0
  obtain ⟨k, rfl⟩ := Int.eq_ofNat_of_zero_le q0
  exact congrArg _ (hasN_anti m (by omega) k (by omega) h1 h2)
theorem underC_trans {c d e : Cap} (h1 : underC c d = true) (h2 : underC d e = true) : underC c e = true := by
  have a := underC_bd h1
  have b := underC_bd h2
  exact underC_mk ⟨by omega, by omega, by omega, hasB_trans b.2.2.2.2.2 a.2.2.2.2.2⟩
theorem underC_refl {c : Cap} (h : rightC c = true) (t : c.tag = true) : underC c c = true := by
  have a := rightC_bd h
  have b := a.2.2.2.2.2.2.2.2.2.2 t
  exact underC_mk ⟨by omega, by omega, by omega, hasB_refl (by omega) (by omega)⟩
theorem underC_anti {c d : Cap} (h1 : underC c d = true) (h2 : underC d c = true) : c.base = d.base ∧ c.top = d.top ∧ c.perms = d.perms := by
  have a := underC_bd h1
  have b := underC_bd h2
  exact ⟨by omega, by omega, hasB_anti b.2.2.2.2.2 a.2.2.2.2.2⟩
end Go.Proofs.Ytlapemeoffpmgaa

namespace Go.Proofs.Ytlapemeoffpmgaa
set_option maxRecDepth 100000
set_option linter.unusedSimpArgs false
set_option linter.unusedVariables false
open Go.RowKit


def Cap.cells (c : Cap) : List Value := [.bool c.tag, .int .i64 c.base, .int .i64 c.top, .int .i64 c.at_, .int .i64 c.perms, .int .i64 c.type]
def nullC : Cap := ⟨false, 0, 0, 0, 0, 0⟩
theorem Row.six {w : World} {b o : Nat} {c : Cap} (h : Row w b o c.cells) : b < w.heap.size ∧ w.cell? ⟨b, o, none⟩ = some (.bool c.tag) ∧ w.cell? ⟨b, o + 1, none⟩ = some (.int .i64 c.base) ∧ w.cell? ⟨b, o + 2, none⟩ = some (.int .i64 c.top) ∧
    w.cell? ⟨b, o + 3, none⟩ = some (.int .i64 c.at_) ∧ w.cell? ⟨b, o + 4, none⟩ = some (.int .i64 c.perms) ∧ w.cell? ⟨b, o + 5, none⟩ = some (.int .i64 c.type) :=
  ⟨h.lt, h.at_ 0 _ rfl, h.at_ 1 _ rfl, h.at_ 2 _ rfl, h.at_ 3 _ rfl, h.at_ 4 _ rfl, h.at_ 5 _ rfl⟩
theorem Row.frees {w : World} {b o : Nat} {c : Cap} (h : Row w b o c.cells) : w.frozen? ⟨b, o, none⟩ = false ∧ w.frozen? ⟨b, o + 1, none⟩ = false ∧ w.frozen? ⟨b, o + 2, none⟩ = false ∧
    w.frozen? ⟨b, o + 3, none⟩ = false ∧ w.frozen? ⟨b, o + 4, none⟩ = false ∧ w.frozen? ⟨b, o + 5, none⟩ = false :=
  have hl : c.cells.length = 6 := rfl
  ⟨h.free 0 (by omega), h.free 1 (by omega), h.free 2 (by omega), h.free 3 (by omega), h.free 4 (by omega), h.free 5 (by omega)⟩
theorem size_setCells (b : Nat) : ∀ (vs : List Value) (o : Nat) (w : World), (w.setCells b o vs).heap.size = w.heap.size
  | [], _, _ => rfl
  | v :: r, o, w => by rw [World.setCells, size_setCells b r, World.size_setCell]
theorem Row.put {w : World} {b o : Nat} {vs us : List Value} (h : Row w b o vs) (hl : us.length = vs.length) : Row (w.setCells b o us) b o us :=
  ⟨by rw [size_setCells]; exact h.lt, World.rangeAt_setCells_same w b o us (by rw [hl]; exact h.there), fun j hj => by rw [World.frozen?_setCells]; exact h.free j (by omega)⟩
theorem Row.apart {w : World} {b o b' o' : Nat} {vs us : List Value} (h : Row w b o vs) (hap : b ≠ b' ∨ o + vs.length ≤ o' ∨ o' + us.length ≤ o) : Row (w.setCells b' o' us) b o vs :=
  ⟨by rw [size_setCells]; exact h.lt, World.rangeAt_setCells_apart h.range b' o' us hap, fun j hj => by rw [World.frozen?_setCells]; exact h.free j hj⟩
/-- So many capabilities at a block, one behind the other. -/
def Caps (w : World) (b o n : Nat) (L : Nat → Cap) : Prop := ∀ i, i < n → Row w b (o + i * 6) (L i).cells
theorem Caps.only {S : Nat → Prop} {w w' : World} {b o n : Nat} {L : Nat → Cap} (h : Caps w b o n L) (x : Only S w w') (hs : ¬ S b) : Caps w' b o n L := fun i hi => (h i hi).only x hs
theorem Caps.keep {w w' : World} {b o n : Nat} {L : Nat → Cap} (h : Caps w b o n L) (x : Keep b w w') : Caps w' b o n L := h.only x (by simp)
theorem Caps.ext {w w' : World} {b o n : Nat} {L : Nat → Cap} (h : Caps w b o n L) (x : Ext w w') : Caps w' b o n L := fun i hi => (h i hi).ext x
def upd (L : Nat → Cap) (k : Nat) (c : Cap) : Nat → Cap := fun i => if i = k then c else L i
theorem Caps.put {w : World} {b o n : Nat} {L : Nat → Cap} (h : Caps w b o n L) {k : Nat} (hk : k < n) (c : Cap) : Caps (w.setCells b (o + k * 6) c.cells) b o n (upd L k c) := fun i hi => by
  unfold upd
  by_cases e : i = k
  · subst e
    rw [if_pos rfl]
    exact (h i hi).put rfl
  · rw [if_neg e]
    refine (h i hi).apart (.inr ?_)
    simp only [Cap.cells, List.length_cons, List.length_nil]
    omega
theorem capField0 (t : Bool) (b tp a p ty : Int) (w : World) : (Instr.field 24 (.agg #[.bool t, .int .i64 b, .int .i64 tp, .int .i64 a, .int .i64 p, .int .i64 ty]) 0).run Try.prog w = .ok (.bool t) w := by kernel_rfl
theorem capField1 (t : Bool) (b tp a p ty : Int) (w : World) : (Instr.field 24 (.agg #[.bool t, .int .i64 b, .int .i64 tp, .int .i64 a, .int .i64 p, .int .i64 ty]) 1).run Try.prog w = .ok (.int .i64 b) w := by kernel_rfl
theorem capField2 (t : Bool) (b tp a p ty : Int) (w : World) : (Instr.field 24 (.agg #[.bool t, .int .i64 b, .int .i64 tp, .int .i64 a, .int .i64 p, .int .i64 ty]) 2).run Try.prog w = .ok (.int .i64 tp) w := by kernel_rfl
theorem capField3 (t : Bool) (b tp a p ty : Int) (w : World) : (Instr.field 24 (.agg #[.bool t, .int .i64 b, .int .i64 tp, .int .i64 a, .int .i64 p, .int .i64 ty]) 3).run Try.prog w = .ok (.int .i64 a) w := by kernel_rfl
theorem capField4 (t : Bool) (b tp a p ty : Int) (w : World) : (Instr.field 24 (.agg #[.bool t, .int .i64 b, .int .i64 tp, .int .i64 a, .int .i64 p, .int .i64 ty]) 4).run Try.prog w = .ok (.int .i64 p) w := by kernel_rfl
theorem capField5 (t : Bool) (b tp a p ty : Int) (w : World) : (Instr.field 24 (.agg #[.bool t, .int .i64 b, .int .i64 tp, .int .i64 a, .int .i64 p, .int .i64 ty]) 5).run Try.prog w = .ok (.int .i64 ty) w := by kernel_rfl
attribute [go_sem] capField0 capField1 capField2 capField3 capField4 capField5
theorem cells_agg (c : Cap) : (.agg c.cells.toArray : Value) = .agg #[.bool c.tag, .int .i64 c.base, .int .i64 c.top, .int .i64 c.at_, .int .i64 c.perms, .int .i64 c.type] := rfl

/-- Their cells, in a row. -/
def capsList (n : Nat) (L : Nat → Cap) : List Value := (List.range n).flatMap fun i => (L i).cells
theorem capsList_succ (n : Nat) (L : Nat → Cap) : capsList (n + 1) L = capsList n L ++ (L n).cells := by
  simp [capsList, List.range_succ, List.flatMap_append]
theorem cells_length (c : Cap) : c.cells.length = 6 := rfl
theorem capsList_length : ∀ (n : Nat) (L : Nat → Cap), (capsList n L).length = n * 6
  | 0, _ => rfl
  | n + 1, L => by rw [capsList_succ, List.length_append, capsList_length n L, cells_length]; omega
theorem capsList_at : ∀ (n : Nat) (L : Nat → Cap) (i j : Nat), i < n → j < 6 → (capsList n L)[i * 6 + j]? = (L i).cells[j]?
  | 0, _, _, _, h, _ => absurd h (by omega)
  | n + 1, L, i, j, hi, hj => by
    rw [capsList_succ]
    by_cases e : i < n
    · rw [List.getElem?_append_left (by rw [capsList_length]; omega)]
      exact capsList_at n L i j e hj
    · obtain rfl : i = n := by omega
      rw [List.getElem?_append_right (by rw [capsList_length]; omega), capsList_length]
      congr 1
      omega
theorem capsArr_size (n : Nat) (L : Nat → Cap) : (capsList n L).toArray.size = n * 6 := by simp [capsList_length]
theorem capsList_one (n : Nat) (L : Nat → Cap) : ∀ v ∈ capsList n L, v.oneCell' = true := by
  intro v hv
  obtain ⟨i, _, hi⟩ := List.mem_flatMap.1 hv
  simp only [Cap.cells, List.mem_cons, List.not_mem_nil, or_false] at hi
  rcases hi with rfl | rfl | rfl | rfl | rfl | rfl <;> rfl
theorem cells_one (c : Cap) : ∀ v ∈ c.cells, v.oneCell' = true := by
  intro v hi
  simp only [Cap.cells, List.mem_cons, List.not_mem_nil, or_false] at hi
  rcases hi with rfl | rfl | rfl | rfl | rfl | rfl <;> rfl
theorem capsList_congr {n : Nat} {L M : Nat → Cap} (h : ∀ i, i < n → L i = M i) : capsList n L = capsList n M := by
  induction n with
  | zero => rfl
  | succ n ih => rw [capsList_succ, capsList_succ, ih (fun i hi => h i (by omega)), h n (by omega)]
/-- Cells lie there, to be read. -/
structure Rng (w : World) (b o : Nat) (vs : List Value) : Prop where
  lt : b < w.heap.size
  at_ : ∀ j v, vs[j]? = some v → w.cell? ⟨b, o + j, none⟩ = some v
theorem Rng.range {w : World} {b o : Nat} {vs : List Value} (h : Rng w b o vs) : w.rangeAt b o vs := h.at_
theorem Row.rng {w : World} {b o : Nat} {vs : List Value} (h : Row w b o vs) : Rng w b o vs := ⟨h.lt, h.at_⟩
theorem Rng.only {S : Nat → Prop} {w w' : World} {b o : Nat} {vs : List Value} (h : Rng w b o vs) (x : Only S w w') (hs : ¬ S b) : Rng w' b o vs :=
  ⟨Nat.lt_of_lt_of_le h.lt x.size, fun j v hj => by rw [x.cells b _ h.lt hs]; exact h.at_ j v hj⟩
theorem Rng.ext {w w' : World} {b o : Nat} {vs : List Value} (h : Rng w b o vs) (x : Ext w w') : Rng w' b o vs := h.only (Only.ofExt (S := fun _ => False) x) id
theorem Rng.six {w : World} {b o : Nat} {c : Cap} (h : Rng w b o c.cells) : b < w.heap.size ∧ w.cell? ⟨b, o, none⟩ = some (.bool c.tag) ∧ w.cell? ⟨b, o + 1, none⟩ = some (.int .i64 c.base) ∧ w.cell? ⟨b, o + 2, none⟩ = some (.int .i64 c.top) ∧
    w.cell? ⟨b, o + 3, none⟩ = some (.int .i64 c.at_) ∧ w.cell? ⟨b, o + 4, none⟩ = some (.int .i64 c.perms) ∧ w.cell? ⟨b, o + 5, none⟩ = some (.int .i64 c.type) :=
  ⟨h.lt, h.at_ 0 _ rfl, h.at_ 1 _ rfl, h.at_ 2 _ rfl, h.at_ 3 _ rfl, h.at_ 4 _ rfl, h.at_ 5 _ rfl⟩
/-- A slice of capabilities, to be read. -/
def RdC (w : World) (A : Option Addr) (n : Nat) (M : Nat → Cap) : Prop := 0 < n → ∃ b o, A = some ⟨b, o, none⟩ ∧ ∀ i, i < n → Rng w b (o + i * 6) (M i).cells
theorem RdC.ext {w w' : World} {A : Option Addr} {n : Nat} {M : Nat → Cap} (h : RdC w A n M) (x : Ext w w') : RdC w' A n M := fun h0 => by
  obtain ⟨b, o, hA, hc⟩ := h h0
  exact ⟨b, o, hA, fun i hi => (hc i hi).ext x⟩
theorem RdC.keep {w w' : World} {b o n : Nat} {M : Nat → Cap} (h : RdC w (some ⟨b, o, none⟩) n M) (x : Keep b w w') : RdC w' (some ⟨b, o, none⟩) n M := fun h0 => by
  obtain ⟨b', o', hA, hc⟩ := h h0
  cases hA
  exact ⟨b, o, rfl, fun i hi => (hc i hi).only x (by simp)⟩
theorem RdC.only {S : Nat → Prop} {w w' : World} {b o n : Nat} {M : Nat → Cap} (h : RdC w (some ⟨b, o, none⟩) n M) (x : Only S w w') (hs : ¬ S b) : RdC w' (some ⟨b, o, none⟩) n M := fun h0 => by
  obtain ⟨b', o', hA, hc⟩ := h h0
  cases hA
  exact ⟨b, o, rfl, fun i hi => (hc i hi).only x hs⟩
theorem Caps.rd {w : World} {b o n : Nat} {L : Nat → Cap} (h : Caps w b o n L) : RdC w (some ⟨b, o, none⟩) n L := fun _ => ⟨b, o, rfl, fun i hi => (h i hi).rng⟩
theorem Caps.row {w : World} {b o n : Nat} {L : Nat → Cap} (h : Caps w b o n L) (h0 : 0 < n) : Row w b o (capsList n L) := by
  refine ⟨(h 0 h0).lt, fun j v hj => ?_, fun j hj => ?_⟩
  · have hlt : j < n * 6 := by
      have := (List.getElem?_eq_some_iff.1 hj).1
      rwa [capsList_length] at this
    have e : j = j / 6 * 6 + j % 6 := by omega
    rw [e, capsList_at n L (j / 6) (j % 6) (by omega) (by omega)] at hj
    have := (h (j / 6) (by omega)).at_ _ v hj
    rwa [show o + j / 6 * 6 + j % 6 = o + j by omega] at this
  · rw [capsList_length] at hj
    have := (h (j / 6) (by omega)).free (j % 6) (by rw [cells_length]; omega)
    rwa [show o + j / 6 * 6 + j % 6 = o + j by omega] at this
theorem RdC.rng {w : World} {b o n : Nat} {M : Nat → Cap} (h0 : 0 < n) (h : ∀ i, i < n → Rng w b (o + i * 6) (M i).cells) : Rng w b o (capsList n M) := by
  refine ⟨(h 0 h0).lt, fun j v hj => ?_⟩
  have hlt : j < n * 6 := by
    have := (List.getElem?_eq_some_iff.1 hj).1
    rwa [capsList_length] at this
  have e : j = j / 6 * 6 + j % 6 := by omega
  rw [e, capsList_at n M (j / 6) (j % 6) (by omega) (by omega)] at hj
  have := (h (j / 6) (by omega)).at_ _ v hj
  rwa [show o + j / 6 * 6 + j % 6 = o + j by omega] at this
theorem Caps.there {w : World} {b o n : Nat} {L : Nat → Cap} (h : Caps w b o n L) (h0 : 0 < n) : w.there b o (n * 6) := by
  have := (h.row h0).there
  rwa [capsList_length] at this
theorem there_ext {w w' : World} {b o n : Nat} (h : b < w.heap.size ∧ w.there b o n) (x : Ext w w') : w'.there b o n := fun j hj => by
  rw [x.cells b _ h.1, x.frozens b _ h.1]
  exact h.2 j hj
theorem Caps.thereArr {w : World} {b o n : Nat} {L : Nat → Cap} (h : Caps w b o n L) (h0 : 0 < n) (M : Nat → Cap) : b < w.heap.size ∧ w.there b o (capsList n M).toArray.size := ⟨(h 0 h0).lt, by rw [capsArr_size]; exact h.there h0⟩
theorem Caps.ofRow {w : World} {b o n : Nat} {L : Nat → Cap} (h : Row w b o (capsList n L)) : Caps w b o n L := fun i hi => by
  refine ⟨h.lt, fun j v hj => ?_, fun j hj => ?_⟩
  · have hlt : j < 6 := (List.getElem?_eq_some_iff.1 hj).1
    rw [show o + i * 6 + j = o + (i * 6 + j) by omega]
    exact h.at_ _ v (by rw [capsList_at n L i j hi hlt]; exact hj)
  · rw [cells_length] at hj
    rw [show o + i * 6 + j = o + (i * 6 + j) by omega]
    exact h.free _ (by rw [capsList_length]; omega)
theorem Row.new (w : World) (cs : Array Value) (T : TypeId) : Row (w.alloc (.cells cs T)) w.heap.size 0 cs.toList :=
  ⟨by simp, fun j v hj => by simp [go_sem]; simpa using hj, fun j hj => by simp [go_sem]⟩
theorem there_new (w : World) (cs : Array Value) (T : TypeId) (n : Nat) (h : cs.size = n) : (w.alloc (.cells cs T)).there w.heap.size 0 n := by
  have := (Row.new w cs T).there
  rwa [Array.length_toList, h] at this
theorem capsArr_one (n : Nat) (L : Nat → Cap) : (capsList n L).toArray.all (·.oneCell') = true := all_oneCell_toArray (capsList_one n L)
theorem Caps.ofAlloc {w : World} {cs : Array Value} {T : TypeId} {n : Nat} {L : Nat → Cap} (h : cs.toList = capsList n L) : Caps (w.alloc (.cells cs T)) w.heap.size 0 n L :=
  Caps.ofRow (h ▸ Row.new w cs T)
theorem Caps.ofAllocAt {w : World} {b : Nat} {cs : Array Value} {T : TypeId} {n : Nat} {L : Nat → Cap} (hb : b = w.heap.size) (h : cs.toList = capsList n L) : Caps (w.alloc (.cells cs T)) b 0 n L := by
  subst hb
  exact Caps.ofAlloc h
theorem Caps.congr {w : World} {b o n : Nat} {L M : Nat → Cap} (h : Caps w b o n L) (e : ∀ i, i < n → L i = M i) : Caps w b o n M := fun i hi => e i hi ▸ h i hi
end Go.Proofs.Ytlapemeoffpmgaa

namespace Go.Proofs.Ytlapemeoffpmgaa
set_option maxRecDepth 100000
set_option linter.unusedSimpArgs false
set_option linter.unusedVariables false
open Go.RowKit

/-- A closure that asks, with no arguments, and answers so in any later world. -/
def Asks (q : Value) (e : Int) (w : World) : Prop :=
  ∃ f cap, q = .func (.func f) #[] cap ∧ (∀ w', Sem.run Try.prog (callFunc f cap) w' = .ok (.enter f cap) w') ∧ ∀ w', Ext w w' → Calls Try.prog f cap w' fun r w'' => r = .returned (.int .i64 e) ∧ Ext w' w''
theorem Asks.ext {q : Value} {e : Int} {w w' : World} (h : Asks q e w) (x : Ext w w') : Asks q e w' := by
  obtain ⟨f, cap, hq, hf, h⟩ := h
  exact ⟨f, cap, hq, hf, fun w'' y => h w'' (x.trans y)⟩
theorem Asks.intro {f : FuncId} {cap : Array Value} {e : Int} {w : World} (h1 : ∀ w', Sem.run Try.prog (callFunc f cap) w' = .ok (.enter f cap) w')
    (h2 : ∀ w', Ext w w' → Calls Try.prog f cap w' fun r w'' => r = .returned (.int .i64 e) ∧ Ext w' w'') : Asks (.func (.func f) #[] cap) e w := ⟨f, cap, rfl, h1, h2⟩
def mustE (b : Bool) (e : Int) : Int := if b then 0 else e
/-- The first answer that is not OK. -/
def firstE : List Int → Int
  | [] => 0
  | e :: l => if e = 0 then firstE l else e
theorem firstE_skip (es : List Int) (k : Nat) (h : ∀ j, j < k → es.getD j 0 = 0) : firstE es = firstE (es.drop k) := by
  induction k generalizing es with
  | zero => rfl
  | succ k ih =>
    cases es with
    | nil => rfl
    | cons e l =>
      have h0 := h 0 (by omega)
      simp at h0
      simp only [firstE, h0, if_true, List.drop_succ_cons]
      exact ih l fun j hj => by simpa using h (j + 1) (by omega)
/-- These closures ask so. -/
def AllAsk (qs : List Value) (es : List Int) (w : World) : Prop := qs.length = es.length ∧ ∀ j (h : j < qs.length), Asks qs[j] (es.getD j 0) w
theorem AllAsk.nil (w : World) : AllAsk [] [] w := ⟨rfl, fun j hj => absurd hj (Nat.not_lt_zero _)⟩
theorem AllAsk.ext {qs : List Value} {es : List Int} {w w' : World} (h : AllAsk qs es w) (x : Ext w w') : AllAsk qs es w' := ⟨h.1, fun j hj => (h.2 j hj).ext x⟩
theorem AllAsk.snoc {qs : List Value} {es : List Int} {q : Value} {e : Int} {w : World} (h : AllAsk qs es w) (k : Asks q e w) : AllAsk (qs ++ [q]) (es ++ [e]) w := by
  obtain ⟨hn, h⟩ := h
  refine ⟨by simp [hn], fun j hj => ?_⟩
  simp only [List.length_append, List.length_singleton] at hj
  by_cases hlt : j < qs.length
  · have := h j hlt
    rw [List.getElem_append_left hlt]
    simpa [List.getD, List.getElem?_append, show j < es.length by omega] using this
  · obtain rfl : j = qs.length := by omega
    simpa [List.getD, hn] using k

set_option maxHeartbeats 400000 in
theorem must (b : Bool) (e : Int) (w : World) :
    Calls Try.prog 71 #[.bool b, .int .i64 e] w fun e_ w' => ∃ q, e_ = .returned q ∧ Asks q (mustE b e) w' ∧ Ext w w' := by
  cases b
  all_goals
    go_enter Try.func71, Try.ntmps71
    go_wp2
    go_ret
    refine ⟨_, rfl, ⟨_, _, rfl, fun w' => enterOf Try.func95 (by kernel_rfl) (by kernel_rfl) _ _, fun w1 hx1 => ?_⟩, (by repeat (first | (with_reducible exact Ext.refl _) | (with_reducible refine Ext.undrew ?_) | (with_reducible refine Ext.grow ?_ _) | (with_reducible refine Ext.drew ?_) | (with_reducible refine Ext.drewN ?_ _) | (with_reducible refine Ext.alloc ?_ _) | (with_reducible assumption) | ((with_reducible refine Ext.setCell ?_ ?_ _); rotate_left; (first | exact Nat.le_refl _ | (dsimp only; simp only [World.size_alloc, grow_size, World.size_setCell]; omega)))))⟩
    obtain ⟨d, rfl⟩ := hx1.grown
    go_enter Try.func95, Try.ntmps95
    go_wp2
    go_ret
    exact ⟨rfl, (by repeat (first | (with_reducible exact Ext.refl _) | (with_reducible refine Ext.undrew ?_) | (with_reducible refine Ext.grow ?_ _) | (with_reducible refine Ext.drew ?_) | (with_reducible refine Ext.drewN ?_ _) | (with_reducible refine Ext.alloc ?_ _) | (with_reducible assumption) | ((with_reducible refine Ext.setCell ?_ ?_ _); rotate_left; (first | exact Nat.le_refl _ | (dsimp only; simp only [World.size_alloc, grow_size, World.size_setCell]; omega)))))⟩

set_option maxHeartbeats 2000000 in
theorem first_ (A : Option Addr) (cap : Nat) (qs : List Value) (es : List Int) (w : World) (hs : SlAt w A qs) (hl : qs.length ≤ 100) (hq : AllAsk qs es w) :
    Calls Try.prog 69 #[.slice A qs.length cap] w fun r w' => r = .returned (.int .i64 (firstE es)) ∧ Ext w w' := by
  obtain ⟨hn, hq⟩ := hq
  have HQ := hid hq
  have HSL := hid hs
  have HN := hid hn
  clear hq hs hn
  go_enter Try.func69, Try.ntmps69
  go_wp2
  go_loopw [8] (fun i wr => ∃ k : Nat, k ≤ qs.length ∧ i = .int .i64 k ∧ Hid (∀ j, j < k → es.getD j 0 = 0) ∧ Ext w wr) (fun i _ => qs.length - (intOf i).toNat)
  case atStart => exact ⟨0, Nat.zero_le _, rfl, fun j hj => absurd hj (by omega), Ext.refl _⟩
  case round =>
    obtain ⟨k, hk, rfl, hz, hx1⟩ := hrel
    by_cases hlt : k < qs.length
    · obtain ⟨b, o, rfl, hb, hc⟩ := (SlAt.ext HSL.out hx1) (by omega)
      have hcell := hc k hlt
      clear hc
      obtain ⟨f, cp, hqk, hfn, hcall⟩ := HQ.out k hlt
      rw [hqk] at hcell
      have HC := hid hcall
      have HX := hid hx1
      clear hcall hqk hx1
      have hk' : k < es.length := by have := HN.out; omega
      have hg : es.getD k 0 = es[k] := by simp [hk']
      have HG := hid hg
      rw [hg] at HC
      clear hg
      have HFS := hid (firstE_skip es k hz.out)
      by_cases he : es[k] = 0
      · go_wp2_with (refine (HC.out _ HX.out).mono ?_; rintro r w2 ⟨rfl, hy⟩)
        go_roundw
        case rel => exact ⟨k + 1, by omega, by go_num, hid (upto_snoc hz.out (by rw [HG.out, he])), HX.out.trans hy⟩
        case measure => simp [intOf]; omega
      · go_wp2_with (refine (HC.out _ HX.out).mono ?_; rintro r w2 ⟨rfl, hy⟩)
        go_ret
        refine ⟨?_, HX.out.trans hy⟩
        rw [HFS.out, List.drop_eq_getElem_cons hk', firstE, if_neg he]
        rfl
    · obtain rfl : k = qs.length := by omega
      have hf := firstE_skip es _ hz.out
      rw [List.drop_eq_nil_of_le (by have := HN.out; omega)] at hf
      have HF := hid hf
      clear hf
      go_wp2
      go_ret
      exact ⟨by rw [HF.out]; rfl, hx1⟩

def useE (c : Cap) : Int := if rightC c = false then 1 else if c.tag = false then 41 else if c.type ≠ 0 then 42 else 0
theorem useE_eq (c : Cap) : firstE [mustE (rightC c) 1, mustE c.tag 41, mustE (c.type == 0) 42] = useE c := by
  cases h1 : rightC c <;> cases h2 : c.tag <;> by_cases h3 : c.type = 0 <;> simp [firstE, mustE, useE, h1, h2, h3]

set_option maxRecDepth 100000 in
set_option maxHeartbeats 4000000 in
theorem usable_asks (t : Bool) (b tp a p ty : Int) (g : Nat) (w0 : World) (hg : g < w0.heap.size) (hk : w0.cell? ⟨g, 0, none⟩ = some (.bool t) ∧ w0.cell? ⟨g, 1, none⟩ = some (.int .i64 b) ∧ w0.cell? ⟨g, 2, none⟩ = some (.int .i64 tp) ∧ w0.cell? ⟨g, 3, none⟩ = some (.int .i64 a) ∧ w0.cell? ⟨g, 4, none⟩ = some (.int .i64 p) ∧ w0.cell? ⟨g, 5, none⟩ = some (.int .i64 ty)) :
    Calls Try.prog 94 #[.pointer (some ⟨g, 0, none⟩)] w0 fun r w' => r = .returned (.int .i64 (useE ⟨t, b, tp, a, p, ty⟩)) ∧ Ext w0 w' := by
  obtain ⟨k0, k1, k2, k3, k4, k5⟩ := hk
  go_enter Try.func94, Try.ntmps94
  go_wp2
  have HA := AllAsk.nil w0
  refine wp_region_chain (.rd 0 (.rd 3 (.rd 4 (.rd 6 (.rd 7 (.rd 8 (.ac 1 (.ac 2 (.ac 5 (.ac 9 (.ac 10 (.ac 11 (.rd 12 (.done)))))))))))))) (by kernel_rfl) (by kernel_rfl) (fun _ _ d _ _ h => by cases d <;> exact h) (by simp only [Ord.map, nthOp, List.append]; rfl) ?_; (repeat' (first | (refine chain_read (by rfl) (fun K hK => ?_); go_big_quiet_op; refine hK _ ?_; clear hK K) | (refine chain_act (by rfl) (fun K hK => ?_); go_wp2_with (first | (go_at_call 24; refine (capRight _ _ _ _ _ _ _).mono ?_; rintro e w1 ⟨rfl, hy⟩; obtain ⟨d, rfl⟩ := hy.grown; clear hy) | (go_at_call 71; refine (must _ _ _).mono ?_; rintro e w1 ⟨q, rfl, ⟨f, cap, rfl, hfn, hcall⟩, hy⟩; obtain ⟨d, rfl⟩ := hy.grown; clear hy; have HA' := (AllAsk.ext HA (by repeat (first | (with_reducible exact Ext.refl _) | (with_reducible refine Ext.undrew ?_) | (with_reducible refine Ext.grow ?_ _) | (with_reducible refine Ext.drew ?_) | (with_reducible refine Ext.drewN ?_ _) | (with_reducible refine Ext.alloc ?_ _) | (with_reducible assumption) | ((with_reducible refine Ext.setCell ?_ ?_ _); rotate_left; (first | exact Nat.le_refl _ | (dsimp only; simp only [World.size_alloc, grow_size, World.size_setCell]; omega)))))).snoc (Asks.intro hfn hcall); clear HA hfn hcall; have HA := HA'; clear HA') | (go_at_call 69; refine (first_ _ _ _ _ _ (slAtNewAt _ _ (by simp [go_sem]) _ _) (by simp) (HA.ext (by repeat (first | (with_reducible exact Ext.refl _) | (with_reducible refine Ext.undrew ?_) | (with_reducible refine Ext.grow ?_ _) | (with_reducible refine Ext.drew ?_) | (with_reducible refine Ext.drewN ?_ _) | (with_reducible refine Ext.alloc ?_ _) | (with_reducible assumption) | ((with_reducible refine Ext.setCell ?_ ?_ _); rotate_left; (first | exact Nat.le_refl _ | (dsimp only; simp only [World.size_alloc, grow_size, World.size_setCell]; omega))))))).mono ?_; rintro e w1 ⟨rfl, hy⟩; obtain ⟨d, rfl⟩ := hy.grown; clear hy HA)); refine ⟨(by repeat (first | (with_reducible exact Ext.refl _) | (with_reducible refine Ext.undrew ?_) | (with_reducible refine Ext.grow ?_ _) | (with_reducible refine Ext.drew ?_) | (with_reducible refine Ext.drewN ?_ _) | (with_reducible refine Ext.alloc ?_ _) | (with_reducible assumption) | ((with_reducible refine Ext.setCell ?_ ?_ _); rotate_left; (first | exact Nat.le_refl _ | (dsimp only; simp only [World.size_alloc, grow_size, World.size_setCell]; omega))))), ?_⟩) | refine chain_br ?_ ?_)); all_goals refine chain_nil ?_
  go_wp2
  go_ret
  exact ⟨by rw [← useE_eq]; rfl, (by repeat (first | (with_reducible exact Ext.refl _) | (with_reducible refine Ext.undrew ?_) | (with_reducible refine Ext.grow ?_ _) | (with_reducible refine Ext.drew ?_) | (with_reducible refine Ext.drewN ?_ _) | (with_reducible refine Ext.alloc ?_ _) | (with_reducible assumption) | ((with_reducible refine Ext.setCell ?_ ?_ _); rotate_left; (first | exact Nat.le_refl _ | (dsimp only; simp only [World.size_alloc, grow_size, World.size_setCell]; omega)))))⟩

set_option maxHeartbeats 1000000 in
theorem usable (t : Bool) (b tp a p ty : Int) (w : World) :
    Calls Try.prog 70 #[.agg #[.bool t, .int .i64 b, .int .i64 tp, .int .i64 a, .int .i64 p, .int .i64 ty]] w fun r w' => ∃ q, r = .returned q ∧ Asks q (useE ⟨t, b, tp, a, p, ty⟩) w' ∧ Ext w w' := by
  go_enter Try.func70, Try.ntmps70
  go_wp2
  go_ret
  refine ⟨_, rfl, ⟨_, _, rfl, fun w' => enterOf Try.func94 (by kernel_rfl) (by kernel_rfl) _ _, fun w1 hx1 => ?_⟩, (by repeat (first | (with_reducible exact Ext.refl _) | (with_reducible refine Ext.undrew ?_) | (with_reducible refine Ext.grow ?_ _) | (with_reducible refine Ext.drew ?_) | (with_reducible refine Ext.drewN ?_ _) | (with_reducible refine Ext.alloc ?_ _) | (with_reducible assumption) | ((with_reducible refine Ext.setCell ?_ ?_ _); rotate_left; (first | exact Nat.le_refl _ | (dsimp only; simp only [World.size_alloc, grow_size, World.size_setCell]; omega)))))⟩
  obtain ⟨d, rfl⟩ := hx1.grown
  refine usable_asks t b tp a p ty w.heap.size _ (by simp [go_sem]) ⟨?_, ?_, ?_, ?_, ?_, ?_⟩ <;> simp [go_sem]

def authE (c : Cap) (pp : Int) : Int := firstE [useE c, mustE (hasB c.perms pp) 44, mustE (inC c c.at_ 1) 43, mustE (decide (1 < c.at_) && decide (c.at_ ≤ 255)) 45]

set_option maxRecDepth 100000 in
set_option maxHeartbeats 4000000 in
theorem authority_asks (t : Bool) (b tp a p ty : Int) (pp : Int) (g g2 : Nat) (w0 : World) (hg : g < w0.heap.size) (hg2 : g2 < w0.heap.size) (hk : w0.cell? ⟨g, 0, none⟩ = some (.bool t) ∧ w0.cell? ⟨g, 1, none⟩ = some (.int .i64 b) ∧ w0.cell? ⟨g, 2, none⟩ = some (.int .i64 tp) ∧ w0.cell? ⟨g, 3, none⟩ = some (.int .i64 a) ∧ w0.cell? ⟨g, 4, none⟩ = some (.int .i64 p) ∧ w0.cell? ⟨g, 5, none⟩ = some (.int .i64 ty)) (hp : w0.cell? ⟨g2, 0, none⟩ = some (.int .i64 pp)) :
    Calls Try.prog 96 #[.pointer (some ⟨g, 0, none⟩), .pointer (some ⟨g2, 0, none⟩)] w0 fun r w' => r = .returned (.int .i64 (authE ⟨t, b, tp, a, p, ty⟩ pp)) ∧ Ext w0 w' := by
  obtain ⟨k0, k1, k2, k3, k4, k5⟩ := hk
  go_enter Try.func96, Try.ntmps96
  go_wp2
  have HA := AllAsk.nil w0
  refine wp_region_chain (.rd 0 (.rd 2 (.rd 3 (.rd 4 (.rd 7 (.rd 8 (.rd 9 (.rd 12 (.rd 13 (.rd 14 (.ac 1 (.ac 5 (.ac 6 (.ac 10 (.ac 11 (.rd 15 (.rd 16 (.rd 17 (.rd 18 (.rd 19 (.ac 20 (.ac 21 (.ac 22 (.rd 23 (.done))))))))))))))))))))))))) (by kernel_rfl) (by kernel_rfl) (fun _ _ d _ _ h => by cases d <;> exact h) (by simp only [Ord.map, nthOp, List.append]; rfl) ?_; (repeat' (first | ((first | refine chain_pick_and (by rfl) (by rfl) (by rfl) (by rfl) ?_ | refine chain_pick_or (by rfl) (by rfl) (by rfl) (by rfl) ?_); simp only [Act.put, List.setIfInBounds_toArray, List.set_cons_zero, List.set_cons_succ]) | (refine chain_read (by rfl) (fun K hK => ?_); go_big_quiet_op; refine hK _ ?_; clear hK K) | (refine chain_guard (v := ?_) (by rfl) (by rfl) (fun hX w hC => ?_) ?_; rotate_left; (obtain ⟨d, rfl⟩ := hC; (try simp only [Bool.and_eq_true, Bool.or_eq_false_iff] at hX); go_split_ands; go_simp; with_reducible rfl); simp only [Act.put, List.setIfInBounds_toArray, List.set_cons_zero, List.set_cons_succ]) | (refine chain_act (by rfl) (fun K hK => ?_); go_wp2_with (first | (go_at_call 70; refine (usable _ _ _ _ _ _ _).mono ?_; rintro e w1 ⟨q, rfl, ⟨f, cap, rfl, hfn, hcall⟩, hy⟩; obtain ⟨d, rfl⟩ := hy.grown; clear hy; have HA' := (AllAsk.ext HA (by repeat (first | (with_reducible exact Ext.refl _) | (with_reducible refine Ext.undrew ?_) | (with_reducible refine Ext.grow ?_ _) | (with_reducible refine Ext.drew ?_) | (with_reducible refine Ext.drewN ?_ _) | (with_reducible refine Ext.alloc ?_ _) | (with_reducible assumption) | ((with_reducible refine Ext.setCell ?_ ?_ _); rotate_left; (first | exact Nat.le_refl _ | (dsimp only; simp only [World.size_alloc, grow_size, World.size_setCell]; omega)))))).snoc (Asks.intro hfn hcall); clear HA hfn hcall; have HA := HA'; clear HA') | (go_at_call 63; refine (has _ _ _).mono ?_; rintro e w1 ⟨rfl, rfl⟩) | (go_at_call 72; refine (capIn _ _ _ _ _ _ _ _ _).mono ?_; rintro e w1 ⟨rfl, hy⟩; obtain ⟨d, rfl⟩ := hy.grown; clear hy) | (go_at_call 71; refine (must _ _ _).mono ?_; rintro e w1 ⟨q, rfl, ⟨f, cap, rfl, hfn, hcall⟩, hy⟩; obtain ⟨d, rfl⟩ := hy.grown; clear hy; have HA' := (AllAsk.ext HA (by repeat (first | (with_reducible exact Ext.refl _) | (with_reducible refine Ext.undrew ?_) | (with_reducible refine Ext.grow ?_ _) | (with_reducible refine Ext.drew ?_) | (with_reducible refine Ext.drewN ?_ _) | (with_reducible refine Ext.alloc ?_ _) | (with_reducible assumption) | ((with_reducible refine Ext.setCell ?_ ?_ _); rotate_left; (first | exact Nat.le_refl _ | (dsimp only; simp only [World.size_alloc, grow_size, World.size_setCell]; omega)))))).snoc (Asks.intro hfn hcall); clear HA hfn hcall; have HA := HA'; clear HA') | (go_at_call 69; refine (first_ _ _ _ _ _ (slAtNewAt _ _ (by simp [go_sem]) _ _) (by simp) (HA.ext (by repeat (first | (with_reducible exact Ext.refl _) | (with_reducible refine Ext.undrew ?_) | (with_reducible refine Ext.grow ?_ _) | (with_reducible refine Ext.drew ?_) | (with_reducible refine Ext.drewN ?_ _) | (with_reducible refine Ext.alloc ?_ _) | (with_reducible assumption) | ((with_reducible refine Ext.setCell ?_ ?_ _); rotate_left; (first | exact Nat.le_refl _ | (dsimp only; simp only [World.size_alloc, grow_size, World.size_setCell]; omega))))))).mono ?_; rintro e w1 ⟨rfl, hy⟩; obtain ⟨d, rfl⟩ := hy.grown; clear hy HA)); refine ⟨(by repeat (first | (with_reducible exact Ext.refl _) | (with_reducible refine Ext.undrew ?_) | (with_reducible refine Ext.grow ?_ _) | (with_reducible refine Ext.drew ?_) | (with_reducible refine Ext.drewN ?_ _) | (with_reducible refine Ext.alloc ?_ _) | (with_reducible assumption) | ((with_reducible refine Ext.setCell ?_ ?_ _); rotate_left; (first | exact Nat.le_refl _ | (dsimp only; simp only [World.size_alloc, grow_size, World.size_setCell]; omega))))), ?_⟩) | refine chain_br ?_ ?_)); all_goals refine chain_nil ?_
  go_wp2
  go_ret
  exact ⟨by rfl, (by repeat (first | (with_reducible exact Ext.refl _) | (with_reducible refine Ext.undrew ?_) | (with_reducible refine Ext.grow ?_ _) | (with_reducible refine Ext.drew ?_) | (with_reducible refine Ext.drewN ?_ _) | (with_reducible refine Ext.alloc ?_ _) | (with_reducible assumption) | ((with_reducible refine Ext.setCell ?_ ?_ _); rotate_left; (first | exact Nat.le_refl _ | (dsimp only; simp only [World.size_alloc, grow_size, World.size_setCell]; omega)))))⟩

set_option maxHeartbeats 1000000 in
theorem authority (t : Bool) (b tp a p ty : Int) (pp : Int) (w : World) :
    Calls Try.prog 76 #[.agg #[.bool t, .int .i64 b, .int .i64 tp, .int .i64 a, .int .i64 p, .int .i64 ty], .int .i64 pp] w fun r w' => ∃ q, r = .returned q ∧ Asks q (authE ⟨t, b, tp, a, p, ty⟩ pp) w' ∧ Ext w w' := by
  go_enter Try.func76, Try.ntmps76
  go_wp2
  go_ret
  refine ⟨_, rfl, ⟨_, _, rfl, fun w' => enterOf Try.func96 (by kernel_rfl) (by kernel_rfl) _ _, fun w1 hx1 => ?_⟩, (by repeat (first | (with_reducible exact Ext.refl _) | (with_reducible refine Ext.undrew ?_) | (with_reducible refine Ext.grow ?_ _) | (with_reducible refine Ext.drew ?_) | (with_reducible refine Ext.drewN ?_ _) | (with_reducible refine Ext.alloc ?_ _) | (with_reducible assumption) | ((with_reducible refine Ext.setCell ?_ ?_ _); rotate_left; (first | exact Nat.le_refl _ | (dsimp only; simp only [World.size_alloc, grow_size, World.size_setCell]; omega)))))⟩
  obtain ⟨d, rfl⟩ := hx1.grown
  refine authority_asks t b tp a p ty pp w.heap.size _ _ (by simp [go_sem]) (by simp [go_sem]) ⟨?_, ?_, ?_, ?_, ?_, ?_⟩ ?_ <;> simp [go_sem]

def zeroC : Cap := ⟨false, 0, 0, 0, 0, 0⟩
def madeC (c : Cap) (e : Int) : Cap := if e = 0 then c else zeroC
def boundsE (c : Cap) (n : Int) : Int := firstE [useE c, mustE (inC c c.at_ n) 43]
def boundsC (c : Cap) (n : Int) : Cap := madeC ⟨c.tag, c.at_, wrap64 (c.at_ + n), c.at_, c.perms, c.type⟩ (boundsE c n)
def permsE (c : Cap) (n : Int) : Int := firstE [useE c, mustE (rightB n) 1]
def permsC (c : Cap) (n : Int) : Cap := madeC ⟨c.tag, c.base, c.top, c.at_, bits .and .i64 c.perms n, c.type⟩ (permsE c n)
def moveE (c : Cap) : Int := firstE [mustE (rightC c) 1, mustE (!c.tag || c.type == 0) 42]
def moveC (c : Cap) (n : Int) : Cap := madeC ⟨c.tag, c.base, c.top, low32 n, c.perms, c.type⟩ (moveE c)
def clearC (c : Cap) : Cap := ⟨false, c.base, c.top, c.at_, c.perms, c.type⟩
def sealE (c d : Cap) : Int := firstE [useE c, authE d 32]
def sealC (c d : Cap) : Cap := madeC ⟨c.tag, c.base, c.top, c.at_, c.perms, d.at_⟩ (sealE c d)
def unsealE (c d : Cap) : Int := firstE [mustE (rightC c) 1, mustE c.tag 41, mustE (c.type != 0) 42, authE d 64, mustE (d.at_ == c.type) 45]
def unsealC (c d : Cap) : Cap := madeC ⟨c.tag, c.base, c.top, c.at_, c.perms, 0⟩ (unsealE c d)
def enterE (c : Cap) : Int := firstE [useE c, mustE (hasB c.perms 4) 44]
def enterC (c : Cap) : Cap := madeC ⟨c.tag, c.base, c.top, c.at_, c.perms, 1⟩ (enterE c)
def buildE (c d : Cap) : Int := firstE [mustE (rightC c) 1, useE d, mustE (c.type == 0) 42, mustE (hasB d.perms c.perms) 44, mustE (underC c d) 43]
def buildC (c d : Cap) : Cap := madeC ⟨true, c.base, c.top, c.at_, c.perms, c.type⟩ (buildE c d)

set_option maxHeartbeats 400000 in
theorem made (t : Bool) (b tp a p ty : Int) (e_ : Int) (w : World) :
    Calls Try.prog 73 #[.agg #[.bool t, .int .i64 b, .int .i64 tp, .int .i64 a, .int .i64 p, .int .i64 ty], .int .i64 e_] w fun e w' => e = .returned (.tuple #[.agg #[.bool (madeC ⟨t, b, tp, a, p, ty⟩ e_).tag, .int .i64 (madeC ⟨t, b, tp, a, p, ty⟩ e_).base, .int .i64 (madeC ⟨t, b, tp, a, p, ty⟩ e_).top, .int .i64 (madeC ⟨t, b, tp, a, p, ty⟩ e_).at_, .int .i64 (madeC ⟨t, b, tp, a, p, ty⟩ e_).perms, .int .i64 (madeC ⟨t, b, tp, a, p, ty⟩ e_).type], .int .i64 (e_)]) ∧ Ext w w' := by
  by_cases h : e_ = 0
  all_goals
    go_enter Try.func73, Try.ntmps73
    go_wp2
    refine bodyPost_ret (v := .tuple #[.agg #[.bool (madeC ⟨t, b, tp, a, p, ty⟩ e_).tag, .int .i64 (madeC ⟨t, b, tp, a, p, ty⟩ e_).base, .int .i64 (madeC ⟨t, b, tp, a, p, ty⟩ e_).top, .int .i64 (madeC ⟨t, b, tp, a, p, ty⟩ e_).at_, .int .i64 (madeC ⟨t, b, tp, a, p, ty⟩ e_).perms, .int .i64 (madeC ⟨t, b, tp, a, p, ty⟩ e_).type], .int .i64 (e_)]) ?_ rfl ⟨rfl, (by repeat (first | (with_reducible exact Ext.refl _) | (with_reducible refine Ext.undrew ?_) | (with_reducible refine Ext.grow ?_ _) | (with_reducible refine Ext.drew ?_) | (with_reducible refine Ext.drewN ?_ _) | (with_reducible refine Ext.alloc ?_ _) | (with_reducible assumption) | ((with_reducible refine Ext.setCell ?_ ?_ _); rotate_left; (first | exact Nat.le_refl _ | (dsimp only; simp only [World.size_alloc, grow_size, World.size_setCell]; omega)))))⟩
    simp [results, Try.results73, go_sem, madeC, zeroC, h]

set_option maxRecDepth 100000 in
set_option maxHeartbeats 4000000 in
theorem bounds_ (t : Bool) (b tp a p ty : Int) (n : Int) (w : World) :
    Calls Try.prog 40 #[.agg #[.bool t, .int .i64 b, .int .i64 tp, .int .i64 a, .int .i64 p, .int .i64 ty], .int .i64 n] w fun e w' => e = .returned (.tuple #[.agg #[.bool (boundsC ⟨t, b, tp, a, p, ty⟩ n).tag, .int .i64 (boundsC ⟨t, b, tp, a, p, ty⟩ n).base, .int .i64 (boundsC ⟨t, b, tp, a, p, ty⟩ n).top, .int .i64 (boundsC ⟨t, b, tp, a, p, ty⟩ n).at_, .int .i64 (boundsC ⟨t, b, tp, a, p, ty⟩ n).perms, .int .i64 (boundsC ⟨t, b, tp, a, p, ty⟩ n).type], .int .i64 (boundsE ⟨t, b, tp, a, p, ty⟩ n)]) ∧ Ext w w' := by
  go_enter Try.func40, Try.ntmps40
  go_wp2
  have HA := AllAsk.nil w
  refine wp_region_chain (.rd 0 (.rd 2 (.rd 3 (.rd 4 (.rd 5 (.ac 1 (.ac 6 (.ac 7 (.ac 8 (.ac 9 (.rd 10 (.done)))))))))))) (by kernel_rfl) (by kernel_rfl) (fun _ _ d _ _ h => by cases d <;> exact h) (by simp only [Ord.map, nthOp, List.append]; rfl) ?_; (repeat' (first | (refine chain_read (by rfl) (fun K hK => ?_); go_big_quiet_op; refine hK _ ?_; clear hK K) | (refine chain_act (by rfl) (fun K hK => ?_); go_wp2_with (first | (go_at_call 70; refine (usable _ _ _ _ _ _ _).mono ?_; rintro e w1 ⟨q, rfl, ⟨f, cap, rfl, hfn, hcall⟩, hy⟩; obtain ⟨d, rfl⟩ := hy.grown; clear hy; have HA' := (AllAsk.ext HA (by repeat (first | (with_reducible exact Ext.refl _) | (with_reducible refine Ext.undrew ?_) | (with_reducible refine Ext.grow ?_ _) | (with_reducible refine Ext.drew ?_) | (with_reducible refine Ext.drewN ?_ _) | (with_reducible refine Ext.alloc ?_ _) | (with_reducible assumption) | ((with_reducible refine Ext.setCell ?_ ?_ _); rotate_left; (first | exact Nat.le_refl _ | (dsimp only; simp only [World.size_alloc, grow_size, World.size_setCell]; omega)))))).snoc (Asks.intro hfn hcall); clear HA hfn hcall; have HA := HA'; clear HA') | (go_at_call 72; refine (capIn _ _ _ _ _ _ _ _ _).mono ?_; rintro e w1 ⟨rfl, hy⟩; obtain ⟨d, rfl⟩ := hy.grown; clear hy) | (go_at_call 71; refine (must _ _ _).mono ?_; rintro e w1 ⟨q, rfl, ⟨f, cap, rfl, hfn, hcall⟩, hy⟩; obtain ⟨d, rfl⟩ := hy.grown; clear hy; have HA' := (AllAsk.ext HA (by repeat (first | (with_reducible exact Ext.refl _) | (with_reducible refine Ext.undrew ?_) | (with_reducible refine Ext.grow ?_ _) | (with_reducible refine Ext.drew ?_) | (with_reducible refine Ext.drewN ?_ _) | (with_reducible refine Ext.alloc ?_ _) | (with_reducible assumption) | ((with_reducible refine Ext.setCell ?_ ?_ _); rotate_left; (first | exact Nat.le_refl _ | (dsimp only; simp only [World.size_alloc, grow_size, World.size_setCell]; omega)))))).snoc (Asks.intro hfn hcall); clear HA hfn hcall; have HA := HA'; clear HA') | (go_at_call 69; refine (first_ _ _ _ _ _ (slAtNewAt _ _ (by simp [go_sem]) _ _) (by simp) (HA.ext (by repeat (first | (with_reducible exact Ext.refl _) | (with_reducible refine Ext.undrew ?_) | (with_reducible refine Ext.grow ?_ _) | (with_reducible refine Ext.drew ?_) | (with_reducible refine Ext.drewN ?_ _) | (with_reducible refine Ext.alloc ?_ _) | (with_reducible assumption) | ((with_reducible refine Ext.setCell ?_ ?_ _); rotate_left; (first | exact Nat.le_refl _ | (dsimp only; simp only [World.size_alloc, grow_size, World.size_setCell]; omega))))))).mono ?_; rintro e w1 ⟨rfl, hy⟩; obtain ⟨d, rfl⟩ := hy.grown; clear hy HA)); refine ⟨(by repeat (first | (with_reducible exact Ext.refl _) | (with_reducible refine Ext.undrew ?_) | (with_reducible refine Ext.grow ?_ _) | (with_reducible refine Ext.drew ?_) | (with_reducible refine Ext.drewN ?_ _) | (with_reducible refine Ext.alloc ?_ _) | (with_reducible assumption) | ((with_reducible refine Ext.setCell ?_ ?_ _); rotate_left; (first | exact Nat.le_refl _ | (dsimp only; simp only [World.size_alloc, grow_size, World.size_setCell]; omega))))), ?_⟩) | refine chain_br ?_ ?_)); all_goals refine chain_nil ?_
  go_wp2_with (go_at_call 73; refine (made _ _ _ _ _ _ _ _).mono ?_; rintro e w1 ⟨rfl, hy⟩; obtain ⟨d, rfl⟩ := hy.grown; clear hy)
  refine bodyPost_ret (v := .tuple #[.agg #[.bool (boundsC ⟨t, b, tp, a, p, ty⟩ n).tag, .int .i64 (boundsC ⟨t, b, tp, a, p, ty⟩ n).base, .int .i64 (boundsC ⟨t, b, tp, a, p, ty⟩ n).top, .int .i64 (boundsC ⟨t, b, tp, a, p, ty⟩ n).at_, .int .i64 (boundsC ⟨t, b, tp, a, p, ty⟩ n).perms, .int .i64 (boundsC ⟨t, b, tp, a, p, ty⟩ n).type], .int .i64 (boundsE ⟨t, b, tp, a, p, ty⟩ n)]) ?_ rfl ⟨rfl, (by repeat (first | (with_reducible exact Ext.refl _) | (with_reducible refine Ext.undrew ?_) | (with_reducible refine Ext.grow ?_ _) | (with_reducible refine Ext.drew ?_) | (with_reducible refine Ext.drewN ?_ _) | (with_reducible refine Ext.alloc ?_ _) | (with_reducible assumption) | ((with_reducible refine Ext.setCell ?_ ?_ _); rotate_left; (first | exact Nat.le_refl _ | (dsimp only; simp only [World.size_alloc, grow_size, World.size_setCell]; omega)))))⟩
  simp [results, Try.results40, go_sem]
  all_goals ((repeat' (refine And.intro ?_ ?_)) <;> rfl)

set_option maxRecDepth 100000 in
set_option maxHeartbeats 4000000 in
theorem perms_ (t : Bool) (b tp a p ty : Int) (n : Int) (w : World) :
    Calls Try.prog 41 #[.agg #[.bool t, .int .i64 b, .int .i64 tp, .int .i64 a, .int .i64 p, .int .i64 ty], .int .i64 n] w fun e w' => e = .returned (.tuple #[.agg #[.bool (permsC ⟨t, b, tp, a, p, ty⟩ n).tag, .int .i64 (permsC ⟨t, b, tp, a, p, ty⟩ n).base, .int .i64 (permsC ⟨t, b, tp, a, p, ty⟩ n).top, .int .i64 (permsC ⟨t, b, tp, a, p, ty⟩ n).at_, .int .i64 (permsC ⟨t, b, tp, a, p, ty⟩ n).perms, .int .i64 (permsC ⟨t, b, tp, a, p, ty⟩ n).type], .int .i64 (permsE ⟨t, b, tp, a, p, ty⟩ n)]) ∧ Ext w w' := by
  have HA := AllAsk.nil w
  go_enter Try.func41, Try.ntmps41
  go_wp2_with (first | (go_at_call 70; refine (usable _ _ _ _ _ _ _).mono ?_; rintro e w1 ⟨q, rfl, ⟨f, cap, rfl, hfn, hcall⟩, hy⟩; obtain ⟨d, rfl⟩ := hy.grown; clear hy; have HA' := (AllAsk.ext HA (by repeat (first | (with_reducible exact Ext.refl _) | (with_reducible refine Ext.undrew ?_) | (with_reducible refine Ext.grow ?_ _) | (with_reducible refine Ext.drew ?_) | (with_reducible refine Ext.drewN ?_ _) | (with_reducible refine Ext.alloc ?_ _) | (with_reducible assumption) | ((with_reducible refine Ext.setCell ?_ ?_ _); rotate_left; (first | exact Nat.le_refl _ | (dsimp only; simp only [World.size_alloc, grow_size, World.size_setCell]; omega)))))).snoc (Asks.intro hfn hcall); clear HA hfn hcall; have HA := HA'; clear HA') | (go_at_call 50; refine (right _ _).mono ?_; rintro e w1 ⟨rfl, rfl⟩) | (go_at_call 71; refine (must _ _ _).mono ?_; rintro e w1 ⟨q, rfl, ⟨f, cap, rfl, hfn, hcall⟩, hy⟩; obtain ⟨d, rfl⟩ := hy.grown; clear hy; have HA' := (AllAsk.ext HA (by repeat (first | (with_reducible exact Ext.refl _) | (with_reducible refine Ext.undrew ?_) | (with_reducible refine Ext.grow ?_ _) | (with_reducible refine Ext.drew ?_) | (with_reducible refine Ext.drewN ?_ _) | (with_reducible refine Ext.alloc ?_ _) | (with_reducible assumption) | ((with_reducible refine Ext.setCell ?_ ?_ _); rotate_left; (first | exact Nat.le_refl _ | (dsimp only; simp only [World.size_alloc, grow_size, World.size_setCell]; omega)))))).snoc (Asks.intro hfn hcall); clear HA hfn hcall; have HA := HA'; clear HA') | (go_at_call 69; refine (first_ _ _ _ _ _ (slAtNewAt _ _ (by simp [go_sem]) _ _) (by simp) (HA.ext (by repeat (first | (with_reducible exact Ext.refl _) | (with_reducible refine Ext.undrew ?_) | (with_reducible refine Ext.grow ?_ _) | (with_reducible refine Ext.drew ?_) | (with_reducible refine Ext.drewN ?_ _) | (with_reducible refine Ext.alloc ?_ _) | (with_reducible assumption) | ((with_reducible refine Ext.setCell ?_ ?_ _); rotate_left; (first | exact Nat.le_refl _ | (dsimp only; simp only [World.size_alloc, grow_size, World.size_setCell]; omega))))))).mono ?_; rintro e w1 ⟨rfl, hy⟩; obtain ⟨d, rfl⟩ := hy.grown; clear hy HA) | (go_at_call 73; refine (made _ _ _ _ _ _ _ _).mono ?_; rintro e w1 ⟨rfl, hy⟩; obtain ⟨d, rfl⟩ := hy.grown; clear hy))
  refine bodyPost_ret (v := .tuple #[.agg #[.bool (permsC ⟨t, b, tp, a, p, ty⟩ n).tag, .int .i64 (permsC ⟨t, b, tp, a, p, ty⟩ n).base, .int .i64 (permsC ⟨t, b, tp, a, p, ty⟩ n).top, .int .i64 (permsC ⟨t, b, tp, a, p, ty⟩ n).at_, .int .i64 (permsC ⟨t, b, tp, a, p, ty⟩ n).perms, .int .i64 (permsC ⟨t, b, tp, a, p, ty⟩ n).type], .int .i64 (permsE ⟨t, b, tp, a, p, ty⟩ n)]) ?_ rfl ⟨rfl, (by repeat (first | (with_reducible exact Ext.refl _) | (with_reducible refine Ext.undrew ?_) | (with_reducible refine Ext.grow ?_ _) | (with_reducible refine Ext.drew ?_) | (with_reducible refine Ext.drewN ?_ _) | (with_reducible refine Ext.alloc ?_ _) | (with_reducible assumption) | ((with_reducible refine Ext.setCell ?_ ?_ _); rotate_left; (first | exact Nat.le_refl _ | (dsimp only; simp only [World.size_alloc, grow_size, World.size_setCell]; omega)))))⟩
  simp [results, Try.results41, go_sem]
  all_goals ((repeat' (refine And.intro ?_ ?_)) <;> rfl)

set_option maxRecDepth 100000 in
set_option maxHeartbeats 4000000 in
theorem move_ (t : Bool) (b tp a p ty : Int) (n : Int) (w : World) :
    Calls Try.prog 42 #[.agg #[.bool t, .int .i64 b, .int .i64 tp, .int .i64 a, .int .i64 p, .int .i64 ty], .int .i64 n] w fun e w' => e = .returned (.tuple #[.agg #[.bool (moveC ⟨t, b, tp, a, p, ty⟩ n).tag, .int .i64 (moveC ⟨t, b, tp, a, p, ty⟩ n).base, .int .i64 (moveC ⟨t, b, tp, a, p, ty⟩ n).top, .int .i64 (moveC ⟨t, b, tp, a, p, ty⟩ n).at_, .int .i64 (moveC ⟨t, b, tp, a, p, ty⟩ n).perms, .int .i64 (moveC ⟨t, b, tp, a, p, ty⟩ n).type], .int .i64 (moveE ⟨t, b, tp, a, p, ty⟩)]) ∧ Ext w w' := by
  go_enter Try.func42, Try.ntmps42
  go_wp2
  have HA := AllAsk.nil w
  refine wp_region_chain (.rd 0 (.rd 3 (.rd 4 (.rd 5 (.ac 1 (.ac 2 (.rd 6 (.rd 7 (.rd 8 (.rd 9 (.rd 10 (.ac 11 (.ac 12 (.ac 13 (.rd 14 (.done)))))))))))))))) (by kernel_rfl) (by kernel_rfl) (fun _ _ d _ _ h => by cases d <;> exact h) (by simp only [Ord.map, nthOp, List.append]; rfl) ?_; (repeat' (first | ((first | refine chain_pick_and (by rfl) (by rfl) (by rfl) (by rfl) ?_ | refine chain_pick_or (by rfl) (by rfl) (by rfl) (by rfl) ?_); simp only [Act.put, List.setIfInBounds_toArray, List.set_cons_zero, List.set_cons_succ]) | (refine chain_read (by rfl) (fun K hK => ?_); go_big_quiet_op; refine hK _ ?_; clear hK K) | (refine chain_guard (v := ?_) (by rfl) (by rfl) (fun hX w hC => ?_) ?_; rotate_left; (obtain ⟨d, rfl⟩ := hC; (try simp only [Bool.and_eq_true, Bool.or_eq_false_iff] at hX); go_split_ands; go_simp; with_reducible rfl); simp only [Act.put, List.setIfInBounds_toArray, List.set_cons_zero, List.set_cons_succ]) | (refine chain_act (by rfl) (fun K hK => ?_); go_wp2_with (first | (go_at_call 24; refine (capRight _ _ _ _ _ _ _).mono ?_; rintro e w1 ⟨rfl, hy⟩; obtain ⟨d, rfl⟩ := hy.grown; clear hy) | (go_at_call 71; refine (must _ _ _).mono ?_; rintro e w1 ⟨q, rfl, ⟨f, cap, rfl, hfn, hcall⟩, hy⟩; obtain ⟨d, rfl⟩ := hy.grown; clear hy; have HA' := (AllAsk.ext HA (by repeat (first | (with_reducible exact Ext.refl _) | (with_reducible refine Ext.undrew ?_) | (with_reducible refine Ext.grow ?_ _) | (with_reducible refine Ext.drew ?_) | (with_reducible refine Ext.drewN ?_ _) | (with_reducible refine Ext.alloc ?_ _) | (with_reducible assumption) | ((with_reducible refine Ext.setCell ?_ ?_ _); rotate_left; (first | exact Nat.le_refl _ | (dsimp only; simp only [World.size_alloc, grow_size, World.size_setCell]; omega)))))).snoc (Asks.intro hfn hcall); clear HA hfn hcall; have HA := HA'; clear HA') | (go_at_call 69; refine (first_ _ _ _ _ _ (slAtNewAt _ _ (by simp [go_sem]) _ _) (by simp) (HA.ext (by repeat (first | (with_reducible exact Ext.refl _) | (with_reducible refine Ext.undrew ?_) | (with_reducible refine Ext.grow ?_ _) | (with_reducible refine Ext.drew ?_) | (with_reducible refine Ext.drewN ?_ _) | (with_reducible refine Ext.alloc ?_ _) | (with_reducible assumption) | ((with_reducible refine Ext.setCell ?_ ?_ _); rotate_left; (first | exact Nat.le_refl _ | (dsimp only; simp only [World.size_alloc, grow_size, World.size_setCell]; omega))))))).mono ?_; rintro e w1 ⟨rfl, hy⟩; obtain ⟨d, rfl⟩ := hy.grown; clear hy HA)); refine ⟨(by repeat (first | (with_reducible exact Ext.refl _) | (with_reducible refine Ext.undrew ?_) | (with_reducible refine Ext.grow ?_ _) | (with_reducible refine Ext.drew ?_) | (with_reducible refine Ext.drewN ?_ _) | (with_reducible refine Ext.alloc ?_ _) | (with_reducible assumption) | ((with_reducible refine Ext.setCell ?_ ?_ _); rotate_left; (first | exact Nat.le_refl _ | (dsimp only; simp only [World.size_alloc, grow_size, World.size_setCell]; omega))))), ?_⟩) | refine chain_br ?_ ?_)); all_goals refine chain_nil ?_
  go_wp2_with (first | (go_at_call 75; refine (capInt _ _).mono ?_; rintro e w1 ⟨rfl, hy⟩; obtain ⟨d, rfl⟩ := hy.grown; clear hy) | (go_at_call 74; refine (capValue _ _ _ _ _ _ _).mono ?_; rintro e w1 ⟨rfl, hy⟩; obtain ⟨d, rfl⟩ := hy.grown; clear hy) | (go_at_call 73; refine (made _ _ _ _ _ _ _ _).mono ?_; rintro e w1 ⟨rfl, hy⟩; obtain ⟨d, rfl⟩ := hy.grown; clear hy))
  refine bodyPost_ret (v := .tuple #[.agg #[.bool (moveC ⟨t, b, tp, a, p, ty⟩ n).tag, .int .i64 (moveC ⟨t, b, tp, a, p, ty⟩ n).base, .int .i64 (moveC ⟨t, b, tp, a, p, ty⟩ n).top, .int .i64 (moveC ⟨t, b, tp, a, p, ty⟩ n).at_, .int .i64 (moveC ⟨t, b, tp, a, p, ty⟩ n).perms, .int .i64 (moveC ⟨t, b, tp, a, p, ty⟩ n).type], .int .i64 (moveE ⟨t, b, tp, a, p, ty⟩)]) ?_ rfl ⟨rfl, (by repeat (first | (with_reducible exact Ext.refl _) | (with_reducible refine Ext.undrew ?_) | (with_reducible refine Ext.grow ?_ _) | (with_reducible refine Ext.drew ?_) | (with_reducible refine Ext.drewN ?_ _) | (with_reducible refine Ext.alloc ?_ _) | (with_reducible assumption) | ((with_reducible refine Ext.setCell ?_ ?_ _); rotate_left; (first | exact Nat.le_refl _ | (dsimp only; simp only [World.size_alloc, grow_size, World.size_setCell]; omega)))))⟩
  simp [results, Try.results42, go_sem]
  all_goals ((repeat' (refine And.intro ?_ ?_)) <;> rfl)

set_option maxHeartbeats 400000 in
theorem clear_ (t : Bool) (b tp a p ty : Int) (w : World) :
    Calls Try.prog 47 #[.agg #[.bool t, .int .i64 b, .int .i64 tp, .int .i64 a, .int .i64 p, .int .i64 ty]] w fun e w' => e = .returned (.agg #[.bool (clearC ⟨t, b, tp, a, p, ty⟩).tag, .int .i64 (clearC ⟨t, b, tp, a, p, ty⟩).base, .int .i64 (clearC ⟨t, b, tp, a, p, ty⟩).top, .int .i64 (clearC ⟨t, b, tp, a, p, ty⟩).at_, .int .i64 (clearC ⟨t, b, tp, a, p, ty⟩).perms, .int .i64 (clearC ⟨t, b, tp, a, p, ty⟩).type]) ∧ Ext w w' := by
  go_enter Try.func47, Try.ntmps47
  go_wp2
  all_goals refine bodyPost_ret (v := .agg #[.bool (clearC ⟨t, b, tp, a, p, ty⟩).tag, .int .i64 (clearC ⟨t, b, tp, a, p, ty⟩).base, .int .i64 (clearC ⟨t, b, tp, a, p, ty⟩).top, .int .i64 (clearC ⟨t, b, tp, a, p, ty⟩).at_, .int .i64 (clearC ⟨t, b, tp, a, p, ty⟩).perms, .int .i64 (clearC ⟨t, b, tp, a, p, ty⟩).type]) ?_ rfl ⟨rfl, (by repeat (first | (with_reducible exact Ext.refl _) | (with_reducible refine Ext.undrew ?_) | (with_reducible refine Ext.grow ?_ _) | (with_reducible refine Ext.drew ?_) | (with_reducible refine Ext.drewN ?_ _) | (with_reducible refine Ext.alloc ?_ _) | (with_reducible assumption) | ((with_reducible refine Ext.setCell ?_ ?_ _); rotate_left; (first | exact Nat.le_refl _ | (dsimp only; simp only [World.size_alloc, grow_size, World.size_setCell]; omega)))))⟩
  all_goals (simp [results, Try.results47, go_sem, clearC]; done)

set_option maxRecDepth 100000 in
set_option maxHeartbeats 4000000 in
theorem seal_ (t : Bool) (b tp a p ty : Int) (t' : Bool) (b' tp' a' p' ty' : Int) (w : World) :
    Calls Try.prog 43 #[.agg #[.bool t, .int .i64 b, .int .i64 tp, .int .i64 a, .int .i64 p, .int .i64 ty], .agg #[.bool t', .int .i64 b', .int .i64 tp', .int .i64 a', .int .i64 p', .int .i64 ty']] w fun e w' => e = .returned (.tuple #[.agg #[.bool (sealC ⟨t, b, tp, a, p, ty⟩ ⟨t', b', tp', a', p', ty'⟩).tag, .int .i64 (sealC ⟨t, b, tp, a, p, ty⟩ ⟨t', b', tp', a', p', ty'⟩).base, .int .i64 (sealC ⟨t, b, tp, a, p, ty⟩ ⟨t', b', tp', a', p', ty'⟩).top, .int .i64 (sealC ⟨t, b, tp, a, p, ty⟩ ⟨t', b', tp', a', p', ty'⟩).at_, .int .i64 (sealC ⟨t, b, tp, a, p, ty⟩ ⟨t', b', tp', a', p', ty'⟩).perms, .int .i64 (sealC ⟨t, b, tp, a, p, ty⟩ ⟨t', b', tp', a', p', ty'⟩).type], .int .i64 (sealE ⟨t, b, tp, a, p, ty⟩ ⟨t', b', tp', a', p', ty'⟩)]) ∧ Ext w w' := by
  go_enter Try.func43, Try.ntmps43
  go_wp2
  have HA := AllAsk.nil w
  refine wp_region_chain (.rd 0 (.rd 2 (.ac 1 (.ac 3 (.ac 4 (.ac 5 (.rd 6 (.done)))))))) (by kernel_rfl) (by kernel_rfl) (fun _ _ d _ _ h => by cases d <;> exact h) (by simp only [Ord.map, nthOp, List.append]; rfl) ?_; (repeat' (first | (refine chain_read (by rfl) (fun K hK => ?_); go_big_quiet_op; refine hK _ ?_; clear hK K) | (refine chain_act (by rfl) (fun K hK => ?_); go_wp2_with (first | (go_at_call 70; refine (usable _ _ _ _ _ _ _).mono ?_; rintro e w1 ⟨q, rfl, ⟨f, cap, rfl, hfn, hcall⟩, hy⟩; obtain ⟨d, rfl⟩ := hy.grown; clear hy; have HA' := (AllAsk.ext HA (by repeat (first | (with_reducible exact Ext.refl _) | (with_reducible refine Ext.undrew ?_) | (with_reducible refine Ext.grow ?_ _) | (with_reducible refine Ext.drew ?_) | (with_reducible refine Ext.drewN ?_ _) | (with_reducible refine Ext.alloc ?_ _) | (with_reducible assumption) | ((with_reducible refine Ext.setCell ?_ ?_ _); rotate_left; (first | exact Nat.le_refl _ | (dsimp only; simp only [World.size_alloc, grow_size, World.size_setCell]; omega)))))).snoc (Asks.intro hfn hcall); clear HA hfn hcall; have HA := HA'; clear HA') | (go_at_call 76; refine (authority _ _ _ _ _ _ _ _).mono ?_; rintro e w1 ⟨q, rfl, ⟨f, cap, rfl, hfn, hcall⟩, hy⟩; obtain ⟨d, rfl⟩ := hy.grown; clear hy; have HA' := (AllAsk.ext HA (by repeat (first | (with_reducible exact Ext.refl _) | (with_reducible refine Ext.undrew ?_) | (with_reducible refine Ext.grow ?_ _) | (with_reducible refine Ext.drew ?_) | (with_reducible refine Ext.drewN ?_ _) | (with_reducible refine Ext.alloc ?_ _) | (with_reducible assumption) | ((with_reducible refine Ext.setCell ?_ ?_ _); rotate_left; (first | exact Nat.le_refl _ | (dsimp only; simp only [World.size_alloc, grow_size, World.size_setCell]; omega)))))).snoc (Asks.intro hfn hcall); clear HA hfn hcall; have HA := HA'; clear HA') | (go_at_call 71; refine (must _ _ _).mono ?_; rintro e w1 ⟨q, rfl, ⟨f, cap, rfl, hfn, hcall⟩, hy⟩; obtain ⟨d, rfl⟩ := hy.grown; clear hy; have HA' := (AllAsk.ext HA (by repeat (first | (with_reducible exact Ext.refl _) | (with_reducible refine Ext.undrew ?_) | (with_reducible refine Ext.grow ?_ _) | (with_reducible refine Ext.drew ?_) | (with_reducible refine Ext.drewN ?_ _) | (with_reducible refine Ext.alloc ?_ _) | (with_reducible assumption) | ((with_reducible refine Ext.setCell ?_ ?_ _); rotate_left; (first | exact Nat.le_refl _ | (dsimp only; simp only [World.size_alloc, grow_size, World.size_setCell]; omega)))))).snoc (Asks.intro hfn hcall); clear HA hfn hcall; have HA := HA'; clear HA') | (go_at_call 69; refine (first_ _ _ _ _ _ (slAtNewAt _ _ (by simp [go_sem]) _ _) (by simp) (HA.ext (by repeat (first | (with_reducible exact Ext.refl _) | (with_reducible refine Ext.undrew ?_) | (with_reducible refine Ext.grow ?_ _) | (with_reducible refine Ext.drew ?_) | (with_reducible refine Ext.drewN ?_ _) | (with_reducible refine Ext.alloc ?_ _) | (with_reducible assumption) | ((with_reducible refine Ext.setCell ?_ ?_ _); rotate_left; (first | exact Nat.le_refl _ | (dsimp only; simp only [World.size_alloc, grow_size, World.size_setCell]; omega))))))).mono ?_; rintro e w1 ⟨rfl, hy⟩; obtain ⟨d, rfl⟩ := hy.grown; clear hy HA)); refine ⟨(by repeat (first | (with_reducible exact Ext.refl _) | (with_reducible refine Ext.undrew ?_) | (with_reducible refine Ext.grow ?_ _) | (with_reducible refine Ext.drew ?_) | (with_reducible refine Ext.drewN ?_ _) | (with_reducible refine Ext.alloc ?_ _) | (with_reducible assumption) | ((with_reducible refine Ext.setCell ?_ ?_ _); rotate_left; (first | exact Nat.le_refl _ | (dsimp only; simp only [World.size_alloc, grow_size, World.size_setCell]; omega))))), ?_⟩) | refine chain_br ?_ ?_)); all_goals refine chain_nil ?_
  go_wp2_with (go_at_call 73; refine (made _ _ _ _ _ _ _ _).mono ?_; rintro e w1 ⟨rfl, hy⟩; obtain ⟨d, rfl⟩ := hy.grown; clear hy)
  refine bodyPost_ret (v := .tuple #[.agg #[.bool (sealC ⟨t, b, tp, a, p, ty⟩ ⟨t', b', tp', a', p', ty'⟩).tag, .int .i64 (sealC ⟨t, b, tp, a, p, ty⟩ ⟨t', b', tp', a', p', ty'⟩).base, .int .i64 (sealC ⟨t, b, tp, a, p, ty⟩ ⟨t', b', tp', a', p', ty'⟩).top, .int .i64 (sealC ⟨t, b, tp, a, p, ty⟩ ⟨t', b', tp', a', p', ty'⟩).at_, .int .i64 (sealC ⟨t, b, tp, a, p, ty⟩ ⟨t', b', tp', a', p', ty'⟩).perms, .int .i64 (sealC ⟨t, b, tp, a, p, ty⟩ ⟨t', b', tp', a', p', ty'⟩).type], .int .i64 (sealE ⟨t, b, tp, a, p, ty⟩ ⟨t', b', tp', a', p', ty'⟩)]) ?_ rfl ⟨rfl, (by repeat (first | (with_reducible exact Ext.refl _) | (with_reducible refine Ext.undrew ?_) | (with_reducible refine Ext.grow ?_ _) | (with_reducible refine Ext.drew ?_) | (with_reducible refine Ext.drewN ?_ _) | (with_reducible refine Ext.alloc ?_ _) | (with_reducible assumption) | ((with_reducible refine Ext.setCell ?_ ?_ _); rotate_left; (first | exact Nat.le_refl _ | (dsimp only; simp only [World.size_alloc, grow_size, World.size_setCell]; omega)))))⟩
  simp [results, Try.results43, go_sem]
  all_goals ((repeat' (refine And.intro ?_ ?_)) <;> rfl)

set_option maxRecDepth 100000 in
set_option maxHeartbeats 4000000 in
theorem unseal_ (t : Bool) (b tp a p ty : Int) (t' : Bool) (b' tp' a' p' ty' : Int) (w : World) :
    Calls Try.prog 44 #[.agg #[.bool t, .int .i64 b, .int .i64 tp, .int .i64 a, .int .i64 p, .int .i64 ty], .agg #[.bool t', .int .i64 b', .int .i64 tp', .int .i64 a', .int .i64 p', .int .i64 ty']] w fun e w' => e = .returned (.tuple #[.agg #[.bool (unsealC ⟨t, b, tp, a, p, ty⟩ ⟨t', b', tp', a', p', ty'⟩).tag, .int .i64 (unsealC ⟨t, b, tp, a, p, ty⟩ ⟨t', b', tp', a', p', ty'⟩).base, .int .i64 (unsealC ⟨t, b, tp, a, p, ty⟩ ⟨t', b', tp', a', p', ty'⟩).top, .int .i64 (unsealC ⟨t, b, tp, a, p, ty⟩ ⟨t', b', tp', a', p', ty'⟩).at_, .int .i64 (unsealC ⟨t, b, tp, a, p, ty⟩ ⟨t', b', tp', a', p', ty'⟩).perms, .int .i64 (unsealC ⟨t, b, tp, a, p, ty⟩ ⟨t', b', tp', a', p', ty'⟩).type], .int .i64 (unsealE ⟨t, b, tp, a, p, ty⟩ ⟨t', b', tp', a', p', ty'⟩)]) ∧ Ext w w' := by
  go_enter Try.func44, Try.ntmps44
  go_wp2
  have HA := AllAsk.nil w
  refine wp_region_chain (.rd 0 (.rd 3 (.rd 4 (.rd 6 (.rd 7 (.rd 8 (.rd 10 (.rd 12 (.rd 13 (.rd 14 (.rd 15 (.rd 16 (.ac 1 (.ac 2 (.ac 5 (.ac 9 (.ac 11 (.ac 17 (.ac 18 (.ac 19 (.rd 20 (.done)))))))))))))))))))))) (by kernel_rfl) (by kernel_rfl) (fun _ _ d _ _ h => by cases d <;> exact h) (by simp only [Ord.map, nthOp, List.append]; rfl) ?_; (repeat' (first | (refine chain_read (by rfl) (fun K hK => ?_); go_big_quiet_op; refine hK _ ?_; clear hK K) | (refine chain_act (by rfl) (fun K hK => ?_); go_wp2_with (first | (go_at_call 24; refine (capRight _ _ _ _ _ _ _).mono ?_; rintro e w1 ⟨rfl, hy⟩; obtain ⟨d, rfl⟩ := hy.grown; clear hy) | (go_at_call 76; refine (authority _ _ _ _ _ _ _ _).mono ?_; rintro e w1 ⟨q, rfl, ⟨f, cap, rfl, hfn, hcall⟩, hy⟩; obtain ⟨d, rfl⟩ := hy.grown; clear hy; have HA' := (AllAsk.ext HA (by repeat (first | (with_reducible exact Ext.refl _) | (with_reducible refine Ext.undrew ?_) | (with_reducible refine Ext.grow ?_ _) | (with_reducible refine Ext.drew ?_) | (with_reducible refine Ext.drewN ?_ _) | (with_reducible refine Ext.alloc ?_ _) | (with_reducible assumption) | ((with_reducible refine Ext.setCell ?_ ?_ _); rotate_left; (first | exact Nat.le_refl _ | (dsimp only; simp only [World.size_alloc, grow_size, World.size_setCell]; omega)))))).snoc (Asks.intro hfn hcall); clear HA hfn hcall; have HA := HA'; clear HA') | (go_at_call 71; refine (must _ _ _).mono ?_; rintro e w1 ⟨q, rfl, ⟨f, cap, rfl, hfn, hcall⟩, hy⟩; obtain ⟨d, rfl⟩ := hy.grown; clear hy; have HA' := (AllAsk.ext HA (by repeat (first | (with_reducible exact Ext.refl _) | (with_reducible refine Ext.undrew ?_) | (with_reducible refine Ext.grow ?_ _) | (with_reducible refine Ext.drew ?_) | (with_reducible refine Ext.drewN ?_ _) | (with_reducible refine Ext.alloc ?_ _) | (with_reducible assumption) | ((with_reducible refine Ext.setCell ?_ ?_ _); rotate_left; (first | exact Nat.le_refl _ | (dsimp only; simp only [World.size_alloc, grow_size, World.size_setCell]; omega)))))).snoc (Asks.intro hfn hcall); clear HA hfn hcall; have HA := HA'; clear HA') | (go_at_call 69; refine (first_ _ _ _ _ _ (slAtNewAt _ _ (by simp [go_sem]) _ _) (by simp) (HA.ext (by repeat (first | (with_reducible exact Ext.refl _) | (with_reducible refine Ext.undrew ?_) | (with_reducible refine Ext.grow ?_ _) | (with_reducible refine Ext.drew ?_) | (with_reducible refine Ext.drewN ?_ _) | (with_reducible refine Ext.alloc ?_ _) | (with_reducible assumption) | ((with_reducible refine Ext.setCell ?_ ?_ _); rotate_left; (first | exact Nat.le_refl _ | (dsimp only; simp only [World.size_alloc, grow_size, World.size_setCell]; omega))))))).mono ?_; rintro e w1 ⟨rfl, hy⟩; obtain ⟨d, rfl⟩ := hy.grown; clear hy HA)); refine ⟨(by repeat (first | (with_reducible exact Ext.refl _) | (with_reducible refine Ext.undrew ?_) | (with_reducible refine Ext.grow ?_ _) | (with_reducible refine Ext.drew ?_) | (with_reducible refine Ext.drewN ?_ _) | (with_reducible refine Ext.alloc ?_ _) | (with_reducible assumption) | ((with_reducible refine Ext.setCell ?_ ?_ _); rotate_left; (first | exact Nat.le_refl _ | (dsimp only; simp only [World.size_alloc, grow_size, World.size_setCell]; omega))))), ?_⟩) | refine chain_br ?_ ?_)); all_goals refine chain_nil ?_
  go_wp2_with (go_at_call 73; refine (made _ _ _ _ _ _ _ _).mono ?_; rintro e w1 ⟨rfl, hy⟩; obtain ⟨d, rfl⟩ := hy.grown; clear hy)
  refine bodyPost_ret (v := .tuple #[.agg #[.bool (unsealC ⟨t, b, tp, a, p, ty⟩ ⟨t', b', tp', a', p', ty'⟩).tag, .int .i64 (unsealC ⟨t, b, tp, a, p, ty⟩ ⟨t', b', tp', a', p', ty'⟩).base, .int .i64 (unsealC ⟨t, b, tp, a, p, ty⟩ ⟨t', b', tp', a', p', ty'⟩).top, .int .i64 (unsealC ⟨t, b, tp, a, p, ty⟩ ⟨t', b', tp', a', p', ty'⟩).at_, .int .i64 (unsealC ⟨t, b, tp, a, p, ty⟩ ⟨t', b', tp', a', p', ty'⟩).perms, .int .i64 (unsealC ⟨t, b, tp, a, p, ty⟩ ⟨t', b', tp', a', p', ty'⟩).type], .int .i64 (unsealE ⟨t, b, tp, a, p, ty⟩ ⟨t', b', tp', a', p', ty'⟩)]) ?_ rfl ⟨rfl, (by repeat (first | (with_reducible exact Ext.refl _) | (with_reducible refine Ext.undrew ?_) | (with_reducible refine Ext.grow ?_ _) | (with_reducible refine Ext.drew ?_) | (with_reducible refine Ext.drewN ?_ _) | (with_reducible refine Ext.alloc ?_ _) | (with_reducible assumption) | ((with_reducible refine Ext.setCell ?_ ?_ _); rotate_left; (first | exact Nat.le_refl _ | (dsimp only; simp only [World.size_alloc, grow_size, World.size_setCell]; omega)))))⟩
  simp [results, Try.results44, go_sem]
  all_goals ((repeat' (refine And.intro ?_ ?_)) <;> rfl)

set_option maxRecDepth 100000 in
set_option maxHeartbeats 4000000 in
theorem enter_ (t : Bool) (b tp a p ty : Int) (w : World) :
    Calls Try.prog 45 #[.agg #[.bool t, .int .i64 b, .int .i64 tp, .int .i64 a, .int .i64 p, .int .i64 ty]] w fun e w' => e = .returned (.tuple #[.agg #[.bool (enterC ⟨t, b, tp, a, p, ty⟩).tag, .int .i64 (enterC ⟨t, b, tp, a, p, ty⟩).base, .int .i64 (enterC ⟨t, b, tp, a, p, ty⟩).top, .int .i64 (enterC ⟨t, b, tp, a, p, ty⟩).at_, .int .i64 (enterC ⟨t, b, tp, a, p, ty⟩).perms, .int .i64 (enterC ⟨t, b, tp, a, p, ty⟩).type], .int .i64 (enterE ⟨t, b, tp, a, p, ty⟩)]) ∧ Ext w w' := by
  go_enter Try.func45, Try.ntmps45
  go_wp2
  have HA := AllAsk.nil w
  refine wp_region_chain (.rd 0 (.rd 2 (.rd 3 (.ac 1 (.ac 4 (.ac 5 (.ac 6 (.ac 7 (.rd 8 (.done)))))))))) (by kernel_rfl) (by kernel_rfl) (fun _ _ d _ _ h => by cases d <;> exact h) (by simp only [Ord.map, nthOp, List.append]; rfl) ?_; (repeat' (first | (refine chain_read (by rfl) (fun K hK => ?_); go_big_quiet_op; refine hK _ ?_; clear hK K) | (refine chain_act (by rfl) (fun K hK => ?_); go_wp2_with (first | (go_at_call 70; refine (usable _ _ _ _ _ _ _).mono ?_; rintro e w1 ⟨q, rfl, ⟨f, cap, rfl, hfn, hcall⟩, hy⟩; obtain ⟨d, rfl⟩ := hy.grown; clear hy; have HA' := (AllAsk.ext HA (by repeat (first | (with_reducible exact Ext.refl _) | (with_reducible refine Ext.undrew ?_) | (with_reducible refine Ext.grow ?_ _) | (with_reducible refine Ext.drew ?_) | (with_reducible refine Ext.drewN ?_ _) | (with_reducible refine Ext.alloc ?_ _) | (with_reducible assumption) | ((with_reducible refine Ext.setCell ?_ ?_ _); rotate_left; (first | exact Nat.le_refl _ | (dsimp only; simp only [World.size_alloc, grow_size, World.size_setCell]; omega)))))).snoc (Asks.intro hfn hcall); clear HA hfn hcall; have HA := HA'; clear HA') | (go_at_call 63; refine (has _ _ _).mono ?_; rintro e w1 ⟨rfl, rfl⟩) | (go_at_call 71; refine (must _ _ _).mono ?_; rintro e w1 ⟨q, rfl, ⟨f, cap, rfl, hfn, hcall⟩, hy⟩; obtain ⟨d, rfl⟩ := hy.grown; clear hy; have HA' := (AllAsk.ext HA (by repeat (first | (with_reducible exact Ext.refl _) | (with_reducible refine Ext.undrew ?_) | (with_reducible refine Ext.grow ?_ _) | (with_reducible refine Ext.drew ?_) | (with_reducible refine Ext.drewN ?_ _) | (with_reducible refine Ext.alloc ?_ _) | (with_reducible assumption) | ((with_reducible refine Ext.setCell ?_ ?_ _); rotate_left; (first | exact Nat.le_refl _ | (dsimp only; simp only [World.size_alloc, grow_size, World.size_setCell]; omega)))))).snoc (Asks.intro hfn hcall); clear HA hfn hcall; have HA := HA'; clear HA') | (go_at_call 69; refine (first_ _ _ _ _ _ (slAtNewAt _ _ (by simp [go_sem]) _ _) (by simp) (HA.ext (by repeat (first | (with_reducible exact Ext.refl _) | (with_reducible refine Ext.undrew ?_) | (with_reducible refine Ext.grow ?_ _) | (with_reducible refine Ext.drew ?_) | (with_reducible refine Ext.drewN ?_ _) | (with_reducible refine Ext.alloc ?_ _) | (with_reducible assumption) | ((with_reducible refine Ext.setCell ?_ ?_ _); rotate_left; (first | exact Nat.le_refl _ | (dsimp only; simp only [World.size_alloc, grow_size, World.size_setCell]; omega))))))).mono ?_; rintro e w1 ⟨rfl, hy⟩; obtain ⟨d, rfl⟩ := hy.grown; clear hy HA)); refine ⟨(by repeat (first | (with_reducible exact Ext.refl _) | (with_reducible refine Ext.undrew ?_) | (with_reducible refine Ext.grow ?_ _) | (with_reducible refine Ext.drew ?_) | (with_reducible refine Ext.drewN ?_ _) | (with_reducible refine Ext.alloc ?_ _) | (with_reducible assumption) | ((with_reducible refine Ext.setCell ?_ ?_ _); rotate_left; (first | exact Nat.le_refl _ | (dsimp only; simp only [World.size_alloc, grow_size, World.size_setCell]; omega))))), ?_⟩) | refine chain_br ?_ ?_)); all_goals refine chain_nil ?_
  go_wp2_with (go_at_call 73; refine (made _ _ _ _ _ _ _ _).mono ?_; rintro e w1 ⟨rfl, hy⟩; obtain ⟨d, rfl⟩ := hy.grown; clear hy)
  refine bodyPost_ret (v := .tuple #[.agg #[.bool (enterC ⟨t, b, tp, a, p, ty⟩).tag, .int .i64 (enterC ⟨t, b, tp, a, p, ty⟩).base, .int .i64 (enterC ⟨t, b, tp, a, p, ty⟩).top, .int .i64 (enterC ⟨t, b, tp, a, p, ty⟩).at_, .int .i64 (enterC ⟨t, b, tp, a, p, ty⟩).perms, .int .i64 (enterC ⟨t, b, tp, a, p, ty⟩).type], .int .i64 (enterE ⟨t, b, tp, a, p, ty⟩)]) ?_ rfl ⟨rfl, (by repeat (first | (with_reducible exact Ext.refl _) | (with_reducible refine Ext.undrew ?_) | (with_reducible refine Ext.grow ?_ _) | (with_reducible refine Ext.drew ?_) | (with_reducible refine Ext.drewN ?_ _) | (with_reducible refine Ext.alloc ?_ _) | (with_reducible assumption) | ((with_reducible refine Ext.setCell ?_ ?_ _); rotate_left; (first | exact Nat.le_refl _ | (dsimp only; simp only [World.size_alloc, grow_size, World.size_setCell]; omega)))))⟩
  simp [results, Try.results45, go_sem]
  all_goals ((repeat' (refine And.intro ?_ ?_)) <;> rfl)

set_option maxRecDepth 100000 in
set_option maxHeartbeats 4000000 in
theorem build_ (t : Bool) (b tp a p ty : Int) (t' : Bool) (b' tp' a' p' ty' : Int) (w : World) :
    Calls Try.prog 46 #[.agg #[.bool t, .int .i64 b, .int .i64 tp, .int .i64 a, .int .i64 p, .int .i64 ty], .agg #[.bool t', .int .i64 b', .int .i64 tp', .int .i64 a', .int .i64 p', .int .i64 ty']] w fun e w' => e = .returned (.tuple #[.agg #[.bool (buildC ⟨t, b, tp, a, p, ty⟩ ⟨t', b', tp', a', p', ty'⟩).tag, .int .i64 (buildC ⟨t, b, tp, a, p, ty⟩ ⟨t', b', tp', a', p', ty'⟩).base, .int .i64 (buildC ⟨t, b, tp, a, p, ty⟩ ⟨t', b', tp', a', p', ty'⟩).top, .int .i64 (buildC ⟨t, b, tp, a, p, ty⟩ ⟨t', b', tp', a', p', ty'⟩).at_, .int .i64 (buildC ⟨t, b, tp, a, p, ty⟩ ⟨t', b', tp', a', p', ty'⟩).perms, .int .i64 (buildC ⟨t, b, tp, a, p, ty⟩ ⟨t', b', tp', a', p', ty'⟩).type], .int .i64 (buildE ⟨t, b, tp, a, p, ty⟩ ⟨t', b', tp', a', p', ty'⟩)]) ∧ Ext w w' := by
  go_enter Try.func46, Try.ntmps46
  go_wp2
  have HA := AllAsk.nil w
  refine wp_region_chain (.rd 0 (.rd 3 (.rd 5 (.rd 6 (.rd 7 (.rd 9 (.rd 10 (.rd 11 (.rd 12 (.rd 15 (.rd 16 (.ac 1 (.ac 2 (.ac 4 (.ac 8 (.ac 13 (.ac 14 (.ac 17 (.ac 18 (.ac 19 (.ac 20 (.rd 21 (.done))))))))))))))))))))))) (by kernel_rfl) (by kernel_rfl) (fun _ _ d _ _ h => by cases d <;> exact h) (by simp only [Ord.map, nthOp, List.append]; rfl) ?_; (repeat' (first | (refine chain_read (by rfl) (fun K hK => ?_); go_big_quiet_op; refine hK _ ?_; clear hK K) | (refine chain_act (by rfl) (fun K hK => ?_); go_wp2_with (first | (go_at_call 24; refine (capRight _ _ _ _ _ _ _).mono ?_; rintro e w1 ⟨rfl, hy⟩; obtain ⟨d, rfl⟩ := hy.grown; clear hy) | (go_at_call 70; refine (usable _ _ _ _ _ _ _).mono ?_; rintro e w1 ⟨q, rfl, ⟨f, cap, rfl, hfn, hcall⟩, hy⟩; obtain ⟨d, rfl⟩ := hy.grown; clear hy; have HA' := (AllAsk.ext HA (by repeat (first | (with_reducible exact Ext.refl _) | (with_reducible refine Ext.undrew ?_) | (with_reducible refine Ext.grow ?_ _) | (with_reducible refine Ext.drew ?_) | (with_reducible refine Ext.drewN ?_ _) | (with_reducible refine Ext.alloc ?_ _) | (with_reducible assumption) | ((with_reducible refine Ext.setCell ?_ ?_ _); rotate_left; (first | exact Nat.le_refl _ | (dsimp only; simp only [World.size_alloc, grow_size, World.size_setCell]; omega)))))).snoc (Asks.intro hfn hcall); clear HA hfn hcall; have HA := HA'; clear HA') | (go_at_call 63; refine (has _ _ _).mono ?_; rintro e w1 ⟨rfl, rfl⟩) | (go_at_call 62; refine (capUnder _ _ _ _ _ _ _ _ _ _ _ _ _).mono ?_; rintro e w1 ⟨rfl, hy⟩; obtain ⟨d, rfl⟩ := hy.grown; clear hy) | (go_at_call 71; refine (must _ _ _).mono ?_; rintro e w1 ⟨q, rfl, ⟨f, cap, rfl, hfn, hcall⟩, hy⟩; obtain ⟨d, rfl⟩ := hy.grown; clear hy; have HA' := (AllAsk.ext HA (by repeat (first | (with_reducible exact Ext.refl _) | (with_reducible refine Ext.undrew ?_) | (with_reducible refine Ext.grow ?_ _) | (with_reducible refine Ext.drew ?_) | (with_reducible refine Ext.drewN ?_ _) | (with_reducible refine Ext.alloc ?_ _) | (with_reducible assumption) | ((with_reducible refine Ext.setCell ?_ ?_ _); rotate_left; (first | exact Nat.le_refl _ | (dsimp only; simp only [World.size_alloc, grow_size, World.size_setCell]; omega)))))).snoc (Asks.intro hfn hcall); clear HA hfn hcall; have HA := HA'; clear HA') | (go_at_call 69; refine (first_ _ _ _ _ _ (slAtNewAt _ _ (by simp [go_sem]) _ _) (by simp) (HA.ext (by repeat (first | (with_reducible exact Ext.refl _) | (with_reducible refine Ext.undrew ?_) | (with_reducible refine Ext.grow ?_ _) | (with_reducible refine Ext.drew ?_) | (with_reducible refine Ext.drewN ?_ _) | (with_reducible refine Ext.alloc ?_ _) | (with_reducible assumption) | ((with_reducible refine Ext.setCell ?_ ?_ _); rotate_left; (first | exact Nat.le_refl _ | (dsimp only; simp only [World.size_alloc, grow_size, World.size_setCell]; omega))))))).mono ?_; rintro e w1 ⟨rfl, hy⟩; obtain ⟨d, rfl⟩ := hy.grown; clear hy HA)); refine ⟨(by repeat (first | (with_reducible exact Ext.refl _) | (with_reducible refine Ext.undrew ?_) | (with_reducible refine Ext.grow ?_ _) | (with_reducible refine Ext.drew ?_) | (with_reducible refine Ext.drewN ?_ _) | (with_reducible refine Ext.alloc ?_ _) | (with_reducible assumption) | ((with_reducible refine Ext.setCell ?_ ?_ _); rotate_left; (first | exact Nat.le_refl _ | (dsimp only; simp only [World.size_alloc, grow_size, World.size_setCell]; omega))))), ?_⟩) | refine chain_br ?_ ?_)); all_goals refine chain_nil ?_
  go_wp2_with (go_at_call 73; refine (made _ _ _ _ _ _ _ _).mono ?_; rintro e w1 ⟨rfl, hy⟩; obtain ⟨d, rfl⟩ := hy.grown; clear hy)
  refine bodyPost_ret (v := .tuple #[.agg #[.bool (buildC ⟨t, b, tp, a, p, ty⟩ ⟨t', b', tp', a', p', ty'⟩).tag, .int .i64 (buildC ⟨t, b, tp, a, p, ty⟩ ⟨t', b', tp', a', p', ty'⟩).base, .int .i64 (buildC ⟨t, b, tp, a, p, ty⟩ ⟨t', b', tp', a', p', ty'⟩).top, .int .i64 (buildC ⟨t, b, tp, a, p, ty⟩ ⟨t', b', tp', a', p', ty'⟩).at_, .int .i64 (buildC ⟨t, b, tp, a, p, ty⟩ ⟨t', b', tp', a', p', ty'⟩).perms, .int .i64 (buildC ⟨t, b, tp, a, p, ty⟩ ⟨t', b', tp', a', p', ty'⟩).type], .int .i64 (buildE ⟨t, b, tp, a, p, ty⟩ ⟨t', b', tp', a', p', ty'⟩)]) ?_ rfl ⟨rfl, (by repeat (first | (with_reducible exact Ext.refl _) | (with_reducible refine Ext.undrew ?_) | (with_reducible refine Ext.grow ?_ _) | (with_reducible refine Ext.drew ?_) | (with_reducible refine Ext.drewN ?_ _) | (with_reducible refine Ext.alloc ?_ _) | (with_reducible assumption) | ((with_reducible refine Ext.setCell ?_ ?_ _); rotate_left; (first | exact Nat.le_refl _ | (dsimp only; simp only [World.size_alloc, grow_size, World.size_setCell]; omega)))))⟩
  simp [results, Try.results46, go_sem]
  all_goals ((repeat' (refine And.intro ?_ ?_)) <;> rfl)

end Go.Proofs.Ytlapemeoffpmgaa

namespace Go.Proofs.Ytlapemeoffpmgaa
set_option maxRecDepth 100000
set_option linter.unusedSimpArgs false
set_option linter.unusedVariables false
open Go.RowKit

theorem wfu8 {n : Int} (h : (Lit.int .u8 n).wf = true) : 0 ≤ n ∧ n ≤ 255 := by
  simpa [Lit.wf, IntKind.min, IntKind.max, IntKind.signed, IntKind.bits] using h
theorem wfu16 {n : Int} (h : (Lit.int .u16 n).wf = true) : 0 ≤ n ∧ n ≤ 65535 := by
  simpa [Lit.wf, IntKind.min, IntKind.max, IntKind.signed, IntKind.bits] using h
theorem firstE_cons {e : Int} {l : List Int} : firstE (e :: l) = 0 ↔ e = 0 ∧ firstE l = 0 := by
  by_cases h : e = 0 <;> simp [firstE, h]
theorem firstE_nil : firstE [] = 0 := rfl
theorem mustE_zero {b : Bool} {e : Int} (he : e ≠ 0) : mustE b e = 0 ↔ b = true := by cases b <;> simp [mustE, he]
theorem useE0 {c : Cap} : useE c = 0 ↔ rightC c = true ∧ c.tag = true ∧ c.type = 0 := by
  rw [← useE_eq]
  simp [firstE_cons, mustE_zero, firstE_nil]
theorem authE0 {c : Cap} {p : Int} : authE c p = 0 ↔ useE c = 0 ∧ hasB c.perms p = true ∧ inC c c.at_ 1 = true ∧ 1 < c.at_ ∧ c.at_ ≤ 255 := by
  unfold authE
  simp [firstE_cons, mustE_zero, firstE_nil]
theorem boundsE0 {c : Cap} {n : Int} : boundsE c n = 0 ↔ useE c = 0 ∧ inC c c.at_ n = true := by
  simp [boundsE, firstE_cons, mustE_zero, firstE_nil]
theorem permsE0 {c : Cap} {n : Int} : permsE c n = 0 ↔ useE c = 0 ∧ rightB n = true := by
  simp [permsE, firstE_cons, mustE_zero, firstE_nil]
theorem moveE0 {c : Cap} : moveE c = 0 ↔ rightC c = true ∧ (c.tag = true → c.type = 0) := by
  simp [moveE, firstE_cons, mustE_zero, firstE_nil]
  cases c.tag <;> simp
theorem sealE0 {c d : Cap} : sealE c d = 0 ↔ useE c = 0 ∧ authE d 32 = 0 := by
  simp [sealE, firstE_cons, mustE_zero, firstE_nil]
theorem unsealE0 {c d : Cap} : unsealE c d = 0 ↔ rightC c = true ∧ c.tag = true ∧ c.type ≠ 0 ∧ authE d 64 = 0 ∧ d.at_ = c.type := by
  simp [unsealE, firstE_cons, mustE_zero, firstE_nil]
theorem enterE0 {c : Cap} : enterE c = 0 ↔ useE c = 0 ∧ hasB c.perms 4 = true := by
  simp [enterE, firstE_cons, mustE_zero, firstE_nil]
theorem buildE0 {c d : Cap} : buildE c d = 0 ↔ rightC c = true ∧ useE d = 0 ∧ c.type = 0 ∧ hasB d.perms c.perms = true ∧ underC c d = true := by
  simp [buildE, firstE_cons, mustE_zero, firstE_nil]
theorem madeC_bad {c : Cap} {e : Int} (h : e ≠ 0) : madeC c e = ⟨false, 0, 0, 0, 0, 0⟩ := by simp [madeC, h, zeroC]
theorem madeC_ok {c : Cap} {e : Int} (h : e = 0) : madeC c e = c := by simp [madeC, h]
theorem andN_bd : ∀ p : Nat, p < 128 → ∀ q : Nat, q < 128 → (rightB (bits .and .i64 (p : Int) (q : Int)) && hasB (p : Int) (bits .and .i64 (p : Int) (q : Int))) = true := by decide +kernel
theorem and_has {p q : Int} (hp : rightB p = true) (hq : rightB q = true) : rightB (bits .and .i64 p q) = true ∧ hasB p (bits .and .i64 p q) = true := by
  obtain ⟨p0, p1⟩ := rightB_iff.1 hp
  obtain ⟨q0, q1⟩ := rightB_iff.1 hq
  obtain ⟨m, rfl⟩ := Int.eq_ofNat_of_zero_le p0
  obtain ⟨k, rfl⟩ := Int.eq_ofNat_of_zero_le q0
  simpa using andN_bd m (by omega) k (by omega)
theorem inC_nums {c : Cap} {x n : Int} (hr : rightC c = true) (h : inC c x n = true) : 0 ≤ n ∧ c.base ≤ x ∧ x ≤ c.top ∧ x + n ≤ c.top := by
  have b := rightC_bd hr
  simp only [inC, Bool.and_eq_true, decide_eq_true_eq] at h
  obtain ⟨⟨⟨⟨h1, h2⟩, h3⟩, h4⟩, h5⟩ := h
  rw [wrap64_id (by omega) (by omega)] at h5
  exact ⟨h2, h3, h4, by omega⟩
theorem inC_of {c : Cap} {x n : Int} (hr : rightC c = true) (h : 0 ≤ n ∧ c.base ≤ x ∧ x + n ≤ c.top) : inC c x n = true := by
  have b := rightC_bd hr
  simp only [inC, Bool.and_eq_true, decide_eq_true_eq]
  refine ⟨⟨⟨⟨by omega, by omega⟩, by omega⟩, by omega⟩, ?_⟩
  rw [wrap64_id (by omega) (by omega)]; omega
/-- It is tagged, as the other one is, right, and under that. -/
def LessC (x o : Cap) : Prop := x.tag = true ∧ o.tag = true ∧ rightC x = true ∧ underC x o = true
theorem less_same {c x : Cap} (hr : rightC c = true) (ht : c.tag = true) (h : x.tag = true ∧ x.base = c.base ∧ x.top = c.top ∧ x.at_ = c.at_ ∧ x.perms = c.perms ∧ 0 ≤ x.type ∧ x.type ≤ 255) : LessC x c := by
  have b := rightC_bd hr
  have t := b.2.2.2.2.2.2.2.2.2.2 ht
  obtain ⟨h1, h2, h3, h4, h5, h6, h7⟩ := h
  refine ⟨h1, ht, rightC_mk ⟨by omega, by omega, by omega, by omega, by omega, by omega, by omega, by omega, h6, h7, fun _ => by omega⟩, underC_mk ⟨by omega, by omega, by omega, ?_⟩⟩
  rw [h5]; exact hasB_refl (by omega) (by omega)
theorem bounds_ok {c : Cap} {n : Int} (h : boundsE c n = 0) : boundsC c n = ⟨true, c.at_, c.at_ + n, c.at_, c.perms, 0⟩ ∧ LessC (boundsC c n) c := by
  obtain ⟨hu, hi⟩ := boundsE0.1 h
  obtain ⟨hr, ht, hy⟩ := useE0.1 hu
  have b := rightC_bd hr
  have t := b.2.2.2.2.2.2.2.2.2.2 ht
  have i := inC_nums hr hi
  have e : boundsC c n = ⟨true, c.at_, c.at_ + n, c.at_, c.perms, 0⟩ := by
    rw [boundsC, madeC_ok h, wrap64_id (by omega) (by omega), ht, hy]
  refine ⟨e, ?_⟩
  rw [e]
  refine ⟨rfl, ht, rightC_mk ⟨by (try dsimp only); omega, by (try dsimp only); omega, by (try dsimp only); omega, by (try dsimp only); omega, by (try dsimp only); omega, by (try dsimp only); omega, by (try dsimp only); omega, by (try dsimp only); omega, by (try dsimp only); omega, by (try dsimp only); omega, fun _ => by (try dsimp only); omega⟩, underC_mk ⟨by (try dsimp only); omega, by (try dsimp only); omega, by (try dsimp only); omega, hasB_refl (by omega) (by omega)⟩⟩
theorem perms_ok {c : Cap} {n : Int} (h : permsE c n = 0) : permsC c n = ⟨true, c.base, c.top, c.at_, bits .and .i64 c.perms n, 0⟩ ∧ LessC (permsC c n) c := by
  obtain ⟨hu, hp⟩ := permsE0.1 h
  obtain ⟨hr, ht, hy⟩ := useE0.1 hu
  have b := rightC_bd hr
  have t := b.2.2.2.2.2.2.2.2.2.2 ht
  obtain ⟨a1, a2⟩ := and_has (rightB_iff.2 ⟨by omega, by omega⟩ : rightB c.perms = true) hp
  have a3 := rightB_iff.1 a1
  have e : permsC c n = ⟨true, c.base, c.top, c.at_, bits .and .i64 c.perms n, 0⟩ := by
    rw [permsC, madeC_ok h, ht, hy]
  refine ⟨e, ?_⟩
  rw [e]
  exact ⟨rfl, ht, rightC_mk ⟨by (try dsimp only); omega, by (try dsimp only); omega, by (try dsimp only); omega, by (try dsimp only); omega, by (try dsimp only); omega, by (try dsimp only); omega, a3.1, a3.2, by (try dsimp only); omega, by (try dsimp only); omega, fun _ => by (try dsimp only); omega⟩, underC_mk ⟨by (try dsimp only); omega, by (try dsimp only); omega, by (try dsimp only); omega, a2⟩⟩
theorem move_eq {c : Cap} {n : Int} (h : moveE c = 0) : moveC c n = ⟨c.tag, c.base, c.top, low32 n, c.perms, c.type⟩ := by rw [moveC, madeC_ok h]
theorem move_ok {c : Cap} {n : Int} (h : moveE c = 0) (ht : c.tag = true) (n0 : -9223372036854775808 ≤ n) (n1 : n ≤ 9223372036854775807) : LessC (moveC c n) c := by
  obtain ⟨hr, hy⟩ := moveE0.1 h
  have b := rightC_bd hr
  have t := b.2.2.2.2.2.2.2.2.2.2 ht
  have l := low32_bd n n0 n1
  rw [move_eq h]
  exact ⟨ht, ht, rightC_mk ⟨by (try dsimp only); omega, by (try dsimp only); omega, by (try dsimp only); omega, by (try dsimp only); omega, l.1, l.2, by (try dsimp only); omega, by (try dsimp only); omega, by (try dsimp only); omega, by (try dsimp only); omega, fun _ => by (try dsimp only); omega⟩, underC_mk ⟨by (try dsimp only); omega, by (try dsimp only); omega, by (try dsimp only); omega, hasB_refl (by (try dsimp only); omega) (by (try dsimp only); omega)⟩⟩
theorem seal_ok {c d : Cap} (h : sealE c d = 0) : sealC c d = ⟨true, c.base, c.top, c.at_, c.perms, d.at_⟩ ∧ LessC (sealC c d) c := by
  obtain ⟨hu, ha⟩ := sealE0.1 h
  obtain ⟨hr, ht, hy⟩ := useE0.1 hu
  obtain ⟨_, _, _, a1, a2⟩ := authE0.1 ha
  have e : sealC c d = ⟨true, c.base, c.top, c.at_, c.perms, d.at_⟩ := by rw [sealC, madeC_ok h, ht]
  refine ⟨e, ?_⟩
  rw [e]
  exact less_same hr ht ⟨rfl, rfl, rfl, rfl, rfl, by (try dsimp only); omega, by (try dsimp only); omega⟩
theorem unseal_ok {c d : Cap} (h : unsealE c d = 0) : unsealC c d = ⟨true, c.base, c.top, c.at_, c.perms, 0⟩ ∧ LessC (unsealC c d) c := by
  obtain ⟨hr, ht, _⟩ := unsealE0.1 h
  have e : unsealC c d = ⟨true, c.base, c.top, c.at_, c.perms, 0⟩ := by rw [unsealC, madeC_ok h, ht]
  refine ⟨e, ?_⟩
  rw [e]
  exact less_same hr ht ⟨rfl, rfl, rfl, rfl, rfl, by (try dsimp only); omega, by (try dsimp only); omega⟩
theorem enter_ok {c : Cap} (h : enterE c = 0) : enterC c = ⟨true, c.base, c.top, c.at_, c.perms, 1⟩ ∧ LessC (enterC c) c := by
  obtain ⟨hu, _⟩ := enterE0.1 h
  obtain ⟨hr, ht, hy⟩ := useE0.1 hu
  have e : enterC c = ⟨true, c.base, c.top, c.at_, c.perms, 1⟩ := by rw [enterC, madeC_ok h, ht]
  refine ⟨e, ?_⟩
  rw [e]
  exact less_same hr ht ⟨rfl, rfl, rfl, rfl, rfl, by (try dsimp only); omega, by (try dsimp only); omega⟩
theorem build_ok {c d : Cap} (h : buildE c d = 0) : buildC c d = ⟨true, c.base, c.top, c.at_, c.perms, 0⟩ ∧ LessC (buildC c d) d := by
  obtain ⟨hr, hu, hy, hp, hn⟩ := buildE0.1 h
  obtain ⟨hrd, htd, _⟩ := useE0.1 hu
  have b := rightC_bd hr
  have bd := rightC_bd hrd
  have t := bd.2.2.2.2.2.2.2.2.2.2 htd
  have u := underC_bd hn
  have e : buildC c d = ⟨true, c.base, c.top, c.at_, c.perms, 0⟩ := by rw [buildC, madeC_ok h, hy]
  refine ⟨e, ?_⟩
  rw [e]
  exact ⟨rfl, htd, rightC_mk ⟨by (try dsimp only); omega, by (try dsimp only); omega, by (try dsimp only); omega, by (try dsimp only); omega, by (try dsimp only); omega, by (try dsimp only); omega, by (try dsimp only); omega, by (try dsimp only); omega, by (try dsimp only); omega, by (try dsimp only); omega, fun _ => by (try dsimp only); omega⟩, underC_mk ⟨by (try dsimp only); omega, by (try dsimp only); omega, by (try dsimp only); omega, hp⟩⟩
theorem and64_nat (a b : Nat) (ha : a < 2 ^ 63) (hb : b < 2 ^ 63) : bits .and .i64 (a : Int) (b : Int) = ((a &&& b : Nat) : Int) :=
  (bits_nat .i64 63 (by decide) (fun n h0 h1 => IntWalk.i64_in n (by omega)) a b ha hb).1
theorem andu8_nat (a b : Nat) (ha : a < 2 ^ 8) (hb : b < 2 ^ 8) : bits .and .u8 (a : Int) (b : Int) = ((a &&& b : Nat) : Int) :=
  (bits_nat .u8 8 (by decide) (fun n h0 h1 => by simp [IntKind.wrap, IntKind.bits, IntKind.signed]; omega) a b ha hb).1
theorem and64_small {x y : Int} (hx : 0 ≤ x ∧ x ≤ 255) (hy : 0 ≤ y ∧ y ≤ 255) : ∃ a b : Nat, x = a ∧ y = b ∧ a < 256 ∧ b < 256 ∧ bits .and .i64 x y = ((a &&& b : Nat) : Int) := by
  obtain ⟨a, rfl⟩ := Int.eq_ofNat_of_zero_le hx.1
  obtain ⟨b, rfl⟩ := Int.eq_ofNat_of_zero_le hy.1
  exact ⟨a, b, rfl, rfl, by omega, by omega, and64_nat a b (by omega) (by omega)⟩
theorem mask_u8 {p : Int} (h0 : 0 ≤ p) (h1 : p ≤ 255) : bits .and .u8 p 127 = ((p.toNat &&& 127 : Nat) : Int) ∧ 0 ≤ bits .and .u8 p 127 ∧ bits .and .u8 p 127 ≤ 127 := by
  obtain ⟨a, rfl⟩ := Int.eq_ofNat_of_zero_le h0
  have e := andu8_nat a 127 (by omega) (by decide)
  have l : a &&& 127 ≤ 127 := Nat.and_le_right
  have e' : bits .and .u8 (a : Int) 127 = ((a &&& 127 : Nat) : Int) := e
  rw [e']
  exact ⟨rfl, by omega, by omega⟩
theorem twice_bits {x p q : Int} (hx : 0 ≤ x ∧ x ≤ 127) (hp : 0 ≤ p ∧ p ≤ 255) (hq : 0 ≤ q ∧ q ≤ 255) :
    bits .and .i64 (bits .and .i64 x (bits .and .u8 p 127)) (bits .and .u8 q 127) = bits .and .i64 (bits .and .i64 (bits .and .i64 x p) q) 127 := by
  obtain ⟨a, rfl⟩ := Int.eq_ofNat_of_zero_le hx.1
  obtain ⟨b, rfl⟩ := Int.eq_ofNat_of_zero_le hp.1
  obtain ⟨c, rfl⟩ := Int.eq_ofNat_of_zero_le hq.1
  have l1 : b &&& 127 ≤ 127 := Nat.and_le_right
  have l2 : c &&& 127 ≤ 127 := Nat.and_le_right
  have l3 : a &&& (b &&& 127) ≤ a := Nat.and_le_left
  have l4 : a &&& b ≤ a := Nat.and_le_left
  have l5 : a &&& b &&& c ≤ a &&& b := Nat.and_le_left
  rw [(mask_u8 hp.1 hp.2).1, (mask_u8 hq.1 hq.2).1, Int.toNat_natCast, Int.toNat_natCast, and64_nat a b (by omega) (by omega), and64_nat _ c (by omega) (by omega), and64_nat a _ (by omega) (by omega), and64_nat _ _ (by omega) (by omega)]
  have e := and64_nat (a &&& b &&& c) 127 (by omega) (by decide)
  have e' : bits .and .i64 ((a &&& b &&& c : Nat) : Int) 127 = ((a &&& b &&& c &&& 127 : Nat) : Int) := e
  rw [e']
  congr 1
  apply Nat.eq_of_testBit_eq
  intro i
  simp only [Nat.testBit_and]
  cases a.testBit i <;> cases b.testBit i <;> cases c.testBit i <;> cases Nat.testBit 127 i <;> rfl
theorem boundsE_again {c : Cap} {n m : Int} (h : boundsE c n = 0) (hm : 0 ≤ m ∧ m ≤ 65535) : boundsE ⟨true, c.at_, c.at_ + n, c.at_, c.perms, 0⟩ m = 0 ↔ m ≤ n := by
  obtain ⟨e, _, _, hr, _⟩ := bounds_ok h
  rw [e] at hr
  rw [boundsE0]
  constructor
  · intro ⟨_, hi⟩
    have := inC_nums hr hi
    dsimp only at this
    omega
  · intro hle
    refine ⟨useE0.2 ⟨hr, rfl, rfl⟩, inC_of hr ⟨by omega, by dsimp only; omega, by dsimp only; omega⟩⟩
theorem hasN_64 : ∀ p : Nat, p < 128 → hasB (p : Int) 64 = decide (64 ≤ p) := by decide +kernel
theorem hasB_64 {p : Int} (h0 : 0 ≤ p) (h1 : p ≤ 127) : hasB p 64 = decide (64 ≤ p) := by
  obtain ⟨m, rfl⟩ := Int.eq_ofNat_of_zero_le h0
  rw [hasN_64 m (by omega)]
  congr 1
  apply propext
  omega
theorem back_iff {c d : Cap} (hr : rightC c = true) (ht : c.tag = true) (hk : 1 < c.type ∧ c.type ≤ 255) :
    unsealE c d = 0 ↔ rightC d = true ∧ d.tag = true ∧ d.type = 0 ∧ 64 ≤ d.perms ∧ inC d d.at_ 1 = true ∧ d.at_ = c.type := by
  rw [unsealE0, authE0, useE0]
  constructor
  · rintro ⟨_, _, _, ⟨⟨a1, a2, a3⟩, a4, a5, _⟩, a6⟩
    have b := rightC_bd a1
    rw [hasB_64 (by omega) (by omega)] at a4
    exact ⟨a1, a2, a3, by simpa using a4, a5, a6⟩
  · rintro ⟨a1, a2, a3, a4, a5, a6⟩
    have b := rightC_bd a1
    exact ⟨hr, ht, by omega, ⟨⟨a1, a2, a3⟩, by rw [hasB_64 (by omega) (by omega)]; simpa using a4, a5, by omega, by omega⟩, a6⟩
theorem useE_sealed {c : Cap} (hr : rightC c = true) (ht : c.tag = true) (hk : c.type ≠ 0) : useE c = 42 := by simp [useE, hr, ht, hk]
theorem useE_untagged {c : Cap} (hr : rightC c = true) (ht : c.tag = false) : useE c = 41 := by simp [useE, hr, ht]
theorem sealE_use {c d : Cap} (h : useE c ≠ 0) : sealE c d = useE c := by simp [sealE, firstE, h]
theorem enterE_use {c : Cap} (h : useE c ≠ 0) : enterE c = useE c := by simp [enterE, firstE, h]
theorem boundsE_use {c : Cap} {n : Int} (h : useE c ≠ 0) : boundsE c n = useE c := by simp [boundsE, firstE, h]
theorem permsE_use {c : Cap} {n : Int} (h : useE c ≠ 0) : permsE c n = useE c := by simp [permsE, firstE, h]
end Go.Proofs.Ytlapemeoffpmgaa
