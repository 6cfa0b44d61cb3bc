/- Layer 16: the document's Parse: values. -/
import Derived.Test.YtdhpbofpomefoaaDoorAsmG
import Derived.Test.YtdhpbofpomefoaaDoorRwF
import Derived.Test.YtdhpbofpomefoaaDoorAsmN
import Derived.Test.YtdhpbofpomefoaaDoorAsmJ
namespace Go.Proofs.YtdhpbofpomefoaaDoor
set_option linter.unusedSimpArgs false
set_option linter.unusedVariables false
open Go.RowKit

def strC (l : List UInt8) : List Value := [.string ⟨l.toArray⟩]
theorem strC_len (l : List UInt8) : (strC l).length = 1 := rfl
theorem strC_one : ∀ z : List UInt8, ∀ u ∈ strC z, u.oneCell' = true := by
  intro z u hu
  obtain rfl := List.mem_singleton.1 hu
  rfl
theorem info_strN : InfoN Tryd.prog 9 1 16 := infoN_of (by kernel_rfl)
/-- Where the document's Parse stands among a text's words. -/
def wst (S : List UInt8) (i fr : Nat) (acc : List (List UInt8)) : Prop := (i ≤ S.length → fr ≤ i ∧ wordsGo [] S = acc ++ wordsGo ((S.drop fr).take (i - fr)) (S.drop i)) ∧ (i = S.length + 1 → wordsGo [] S = acc)
theorem wst_start (S : List UInt8) : wst S 0 0 [] := ⟨fun _ => ⟨Nat.le_refl _, by simp⟩, fun h => by omega⟩
theorem wst_cut {S : List UInt8} {i fr : Nat} {acc : List (List UInt8)} (h : wst S i fr acc) (hi : i ≤ S.length) (hc : i = S.length ∨ ∃ hl : i < S.length, S[i] = 32) : wst S (i + 1) (i + 1) (acc ++ [(S.drop fr).take (i - fr)]) := by
  obtain ⟨h1, h2⟩ := h.1 hi
  refine ⟨fun h3 => ⟨Nat.le_refl _, ?_⟩, fun h3 => ?_⟩
  · rcases hc with rfl | ⟨hl, hb⟩
    · omega
    · rw [h2, List.drop_eq_getElem_cons hl, wordsGo_cons, if_pos hb, Nat.sub_self, List.take_zero, List.append_assoc]
      rfl
  · obtain rfl : i = S.length := by omega
    rw [h2, List.drop_length]
    rfl
theorem wst_more {S : List UInt8} {i fr : Nat} {acc : List (List UInt8)} (h : wst S i fr acc) (hi : i < S.length) (hc : ¬ S[i] = 32) : wst S (i + 1) fr acc := by
  obtain ⟨h1, h2⟩ := h.1 (by omega)
  refine ⟨fun h3 => ⟨by omega, ?_⟩, fun h3 => by omega⟩
  rw [h2, List.drop_eq_getElem_cons hi, wordsGo_cons, if_neg hc]
  congr 2
  have e : i + 1 - fr = (i - fr) + 1 := by omega
  have hl : i - fr < (S.drop fr).length := by rw [List.length_drop]; omega
  rw [e, List.take_succ_eq_append_getElem hl]
  congr 2
  rw [List.getElem_drop]
  congr 1
  omega
theorem ext_mid (s : ByteArray) (a b : Nat) : s.extract a b = ⟨((s.data.toList.drop a).take (b - a)).toArray⟩ := by
  apply ByteArray.ext
  simp [ByteArray.data_extract, List.extract_eq_take_drop, ← Array.toList_inj]
theorem rp_yes {S w0 : List UInt8} {ws : List (List UInt8)} {k : Nat} (hk : k < 30) (hw : words S = w0 :: ws) (hn : nameL k = w0) (ht : textL k ((partP numR (kstr (kd k)) ws 3).1 0) ((partP numR (kstr (kd k)) ws 3).1 1) ((partP numR (kstr (kd k)) ws 3).1 2) = S) :
    parseN numR S = (⟨k, (partP numR (kstr (kd k)) ws 3).1 0, (partP numR (kstr (kd k)) ws 3).1 1, (partP numR (kstr (kd k)) ws 3).1 2⟩, true) := by
  have hi : idxN w0 = (k : Int) := by rw [← hn]; exact idxN_name (by omega)
  have hk0 : ¬ kd (k : Int) = 0 := kd_names ⟨k, hk⟩
  have hs3 : (kstr (kd (k : Int))).size = 3 := by have := kstr_size ⟨kd (k : Int), kd_lt (k : Int)⟩; simp only at this; rw [this, if_neg hk0]
  have hc := cand_is numR hw
  rw [hi, hs3] at hc
  unfold parseN
  rw [hc]
  refine if_pos ⟨ht, ?_⟩
  rintro rfl
  rw [show words [] = [[]] from by decide +kernel] at hw
  obtain ⟨rfl, _⟩ := List.cons.inj hw
  exact absurd hn (nm_no _ (nameL_mem (by omega))).2.2
theorem rp_no {S w0 : List UInt8} {ws : List (List UInt8)} {k : Nat} (hk : k < 30) (hw : words S = w0 :: ws) (hn : nameL k = w0) (ht : ¬ textL k ((partP numR (kstr (kd k)) ws 3).1 0) ((partP numR (kstr (kd k)) ws 3).1 1) ((partP numR (kstr (kd k)) ws 3).1 2) = S) :
    parseN numR S = (noIn, false) := by
  have hi : idxN w0 = (k : Int) := by rw [← hn]; exact idxN_name (by omega)
  have hk0 : ¬ kd (k : Int) = 0 := kd_names ⟨k, hk⟩
  have hs3 : (kstr (kd (k : Int))).size = 3 := by have := kstr_size ⟨kd (k : Int), kd_lt (k : Int)⟩; simp only at this; rw [this, if_neg hk0]
  have hc := cand_is numR hw
  rw [hi, hs3] at hc
  unfold parseN
  rw [hc]
  exact if_neg fun h => ht h.1
theorem rp_none {S w0 : List UInt8} {ws : List (List UInt8)} (hw : words S = w0 :: ws) (hn : ∀ k : Nat, k < 30 → ¬ nameL k = w0) : parseN numR S = (noIn, false) := by
  rcases parse_is good_R S with ⟨x, hx, ht, _⟩ | ⟨_, h⟩
  · exfalso
    have h1 := words_text hx
    obtain ⟨h2, h3⟩ := kd_range (right_kd hx)
    rw [show textL x.op x.a x.b x.c = S from ht, hw] at h1
    refine hn x.op.toNat (by omega) ?_
    rw [show ((x.op.toNat : Nat) : Int) = x.op by omega]
    exact (List.cons.inj h1).1.symm
  · exact h
theorem rp_same {k j : Nat} (hk : k < 30) (hj : j < 30) {w0 : List UInt8} (h1 : nameL k = w0) (h2 : nameL j = w0) : k = j := by
  have a := idxN_name (op := k) (by omega)
  have b := idxN_name (op := j) (by omega)
  rw [h1] at a
  rw [h2] at b
  omega
theorem kstr_al : ∀ (q : Fin 8) (j : Fin 3), q.val ≠ 0 → chAt (kstr q.val) j.val = 114 ∨ chAt (kstr q.val) j.val = 105 ∨ chAt (kstr q.val) j.val = 119 ∨ chAt (kstr q.val) j.val = 118 ∨ chAt (kstr q.val) j.val = 45 := by decide +kernel
theorem rdF_row1 {w : World} {b : Nat} {z : List UInt8} (h : Row w b 0 [.string ⟨z.toArray⟩]) : RdF strC w (some ⟨b, 0, none⟩) [z] := fun _ => ⟨b, 0, rfl, h.lt, fun j u hj => by
  have := h.at_ j u hj
  simpa using this⟩

end Go.Proofs.YtdhpbofpomefoaaDoor
