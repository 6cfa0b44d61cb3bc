/- Layer 17: what is read of a right one's bytes. -/
import Derived.Test.YtgldlkoohfclpaaImAA
import Derived.Test.YtgldlkoohfclpaaImU
import Derived.Test.YtgldlkoohfclpaaImN
namespace Go.Proofs.Ytgldlkoohfclpaa
set_option linter.unusedSimpArgs false
set_option linter.unusedVariables false
open Go.RowKit

theorem atB_left {a b : List Int} {i : Nat} (h : i < a.length) : atB (a ++ b) i = atB a i := by
  unfold atB
  rw [List.getElem?_append_left h]
theorem atB_right {a b : List Int} {n i : Nat} (h : a.length = n) : atB (a ++ b) (n + i) = atB b i := by
  unfold atB
  rw [List.getElem?_append_right (by omega), show n + i - a.length = i by omega]
theorem atB_flat {α : Type} (f : α → List Int) (n : Nat) (hf : ∀ z, (f z).length = n) : ∀ (l : List α) (k j : Nat) (hk : k < l.length), j < n → atB (l.flatMap f) (n * k + j) = atB (f l[k]) j
  | [], k, j, hk, _ => absurd hk (Nat.not_lt_zero _)
  | z :: l, 0, j, hk, hj => by
    rw [List.flatMap_cons, Nat.mul_zero, Nat.zero_add, atB_left (by rw [hf]; exact hj)]
    rfl
  | z :: l, k + 1, j, hk, hj => by
    rw [List.flatMap_cons, show n * (k + 1) + j = n + (n * k + j) by rw [Nat.mul_succ]; omega, atB_right (hf z), atB_flat f n hf l k j (by simpa using hk) hj]
    rfl
section
variable {x : Img} {C : List Int}
theorem hd_i {i : Nat} (hi : i < 9) : atB (hdB x ++ C) i = atB (hdI x) i := by
  have h9 : (hdI x).length = 9 := rfl
  unfold hdB
  rw [atB_left (by simp only [List.length_append]; omega), atB_left (by simp only [List.length_append]; omega), atB_left (by simp only [List.length_append]; omega), atB_left (by omega)]
theorem hd_c {k j : Nat} (hk : k < x.comps.length) (hj : j < 3) : atB (hdB x ++ C) (9 + (3 * k + j)) = atB (cmB x.comps[k]) j := by
  have h9 : (hdI x).length = 9 := rfl
  have hc := flat_len cmB 3 (fun _ => rfl) x.comps
  unfold hdB
  rw [atB_left (by simp only [List.length_append]; omega), atB_left (by simp only [List.length_append]; omega), atB_left (by simp only [List.length_append]; omega), atB_right h9, atB_flat cmB 3 (fun _ => rfl) _ _ _ hk hj]
theorem hd_l {k j : Nat} (hk : k < x.links.length) (hj : j < 4) : atB (hdB x ++ C) (9 + 3 * x.comps.length + (4 * k + j)) = atB (lkBy x.links[k]) j := by
  have h9 : (hdI x).length = 9 := rfl
  have hc := flat_len cmB 3 (fun _ => rfl) x.comps
  have hl := flat_len lkBy 4 (fun _ => rfl) x.links
  unfold hdB
  rw [atB_left (by simp only [List.length_append]; omega), atB_left (by simp only [List.length_append]; omega), atB_right (by simp only [List.length_append]; omega), atB_flat lkBy 4 (fun _ => rfl) _ _ _ hk hj]
theorem hd_s {k j : Nat} (hk : k < x.shares.length) (hj : j < 2) : atB (hdB x ++ C) (9 + 3 * x.comps.length + 4 * x.links.length + (2 * k + j)) = atB (shB x.shares[k]) j := by
  have h9 : (hdI x).length = 9 := rfl
  have hc := flat_len cmB 3 (fun _ => rfl) x.comps
  have hl := flat_len lkBy 4 (fun _ => rfl) x.links
  have hs := flat_len shB 2 (fun _ => rfl) x.shares
  unfold hdB
  rw [atB_left (by simp only [List.length_append]; omega), atB_right (by simp only [List.length_append]; omega), atB_flat shB 2 (fun _ => rfl) _ _ _ hk hj]
end
/-- What is asked of an image whose bytes are read again. -/
structure FitI (x : Img) : Prop where
  hp : 0 ≤ x.heap ∧ x.heap ≤ 255
  fl : 0 ≤ x.full ∧ x.full ≤ 65535
  nc : x.comps.length ≤ 255
  nl : x.links.length ≤ 255
  ns : x.shares.length ≤ 255
  c : ∀ d ∈ x.comps, d.bl.length ≤ 65535 ∧ 0 ≤ d.data ∧ d.data ≤ 255
  l : ∀ d ∈ x.links, (0 ≤ d.fr ∧ d.fr ≤ 255) ∧ (0 ≤ d.to_ ∧ d.to_ ≤ 255) ∧ (0 ≤ d.at_ ∧ d.at_ ≤ 65535)
  s : ∀ d ∈ x.shares, (0 ≤ d.rd ∧ d.rd ≤ 255) ∧ (0 ≤ d.wr_ ∧ d.wr_ ≤ 255)
theorem FitI.of {x : Img} (h : rightV x = true) (hw : ∀ s ∈ x.shares, wf64 s.wr_) : FitI x := by
  obtain ⟨h5, hcm, hlk, hsh⟩ := rightV_ok h
  refine ⟨by omega, by omega, by omega, by omega, by omega, fun d hd => ?_, fun d hd => ?_, fun d hd => ?_⟩
  · obtain ⟨a, b, c, e⟩ := (hcm d hd).1
    omega
  · have h1 := lnk_ok h hd
    have h2 := hlk d hd
    unfold lnkOk lkA at h2
    simp only [Bool.and_eq_true, Bool.not_eq_true', List.any_cons, List.any_nil, id, Bool.or_eq_false_iff, Bool.or_false] at h2
    have h3 := outB_no h2.1.1
    omega
  · have h1 := hsh d hd
    unfold shOk at h1
    simp only [List.any_cons, List.any_nil, id, Bool.not_eq_true', Bool.or_eq_false_iff, Bool.or_false] at h1
    obtain ⟨h2, h3⟩ := h1
    have h4 := outB_no h2
    have h5 : (2 : Int) ^ x.comps.length - 1 ≤ 15 := by
      rcases (show x.comps.length = 1 ∨ x.comps.length = 2 ∨ x.comps.length = 3 ∨ x.comps.length = 4 by omega) with e | e | e | e <;> rw [e] <;> decide
    have h6 : bits .andNot .i64 d.wr_ d.rd = 0 := by simpa using h3
    have h7 := andNot_le (hw d hd) ⟨h4.1, by omega⟩ h6
    omega
section
variable {x : Img} {C : List Int}
theorem two_join {n : Int} (h0 : 0 ≤ n) (h1 : n ≤ 65535) : n / 256 % 256 * 256 + n % 256 = n := by omega
theorem rd_nc (h : FitI x) : hN (hdB x ++ C) 6 = x.comps.length := by
  unfold hN
  rw [numB_one, hd_i (by decide)]
  show (((x.comps.length : Int) % 256)).toNat = _
  have := h.nc
  omega
theorem rd_nl (h : FitI x) : hN (hdB x ++ C) 7 = x.links.length := by
  unfold hN
  rw [numB_one, hd_i (by decide)]
  show (((x.links.length : Int) % 256)).toNat = _
  have := h.nl
  omega
theorem rd_ns (h : FitI x) : hN (hdB x ++ C) 8 = x.shares.length := by
  unfold hN
  rw [numB_one, hd_i (by decide)]
  show (((x.shares.length : Int) % 256)).toNat = _
  have := h.ns
  omega
theorem rd_len (h : FitI x) {k : Nat} (hk : k < x.comps.length) : ln0 (hdB x ++ C) k = x.comps[k].bl.length := by
  have h1 := (h.c _ (List.getElem_mem hk)).1
  unfold ln0
  rw [numB_two, show 9 + 3 * k = 9 + (3 * k + 0) from rfl, show 9 + (3 * k + 0) + 1 = 9 + (3 * k + 1) from rfl, hd_c hk (by decide), hd_c hk (by decide)]
  exact two_join (by omega) (by omega)
theorem rd_data (h : FitI x) {k : Nat} (hk : k < x.comps.length) : numB (hdB x ++ C) (9 + 3 * k + 2) 1 = x.comps[k].data := by
  have h1 := (h.c _ (List.getElem_mem hk)).2
  rw [numB_one, show 9 + 3 * k + 2 = 9 + (3 * k + 2) from rfl, hd_c hk (by decide)]
  show x.comps[k].data % 256 = _
  omega
theorem rd_lk (h : FitI x) {k : Nat} (hk : k < x.links.length) : lk0 (hdB x ++ C) (9 + 3 * x.comps.length) k = x.links[k] := by
  obtain ⟨h1, h2, h3⟩ := h.l _ (List.getElem_mem hk)
  unfold lk0
  rw [numB_one, numB_one, numB_two, show 9 + 3 * x.comps.length + 4 * k = 9 + 3 * x.comps.length + (4 * k + 0) from rfl, show 9 + 3 * x.comps.length + (4 * k + 0) + 1 = 9 + 3 * x.comps.length + (4 * k + 1) from rfl, show 9 + 3 * x.comps.length + (4 * k + 0) + 2 = 9 + 3 * x.comps.length + (4 * k + 2) from rfl, show 9 + 3 * x.comps.length + (4 * k + 2) + 1 = 9 + 3 * x.comps.length + (4 * k + 3) from rfl, hd_l hk (by decide), hd_l hk (by decide), hd_l hk (by decide), hd_l hk (by decide)]
  obtain ⟨l, hl⟩ : ∃ l, x.links[k] = l := ⟨_, rfl⟩
  rw [hl] at h1 h2 h3 ⊢
  obtain ⟨fr, tt, at_⟩ := l
  show (⟨fr % 256, tt % 256, at_ / 256 % 256 * 256 + at_ % 256⟩ : Lnk) = ⟨fr, tt, at_⟩
  (try dsimp only at h1 h2 h3)
  rw [two_join h3.1 h3.2, show fr % 256 = fr by omega, show tt % 256 = tt by omega]
theorem rd_sh (h : FitI x) {k : Nat} (hk : k < x.shares.length) : sh0 (hdB x ++ C) (9 + 3 * x.comps.length + 4 * x.links.length) k = x.shares[k] := by
  obtain ⟨h1, h2⟩ := h.s _ (List.getElem_mem hk)
  unfold sh0
  rw [numB_one, numB_one, show 9 + 3 * x.comps.length + 4 * x.links.length + 2 * k = 9 + 3 * x.comps.length + 4 * x.links.length + (2 * k + 0) from rfl, show 9 + 3 * x.comps.length + 4 * x.links.length + (2 * k + 0) + 1 = 9 + 3 * x.comps.length + 4 * x.links.length + (2 * k + 1) from rfl, hd_s hk (by decide), hd_s hk (by decide)]
  obtain ⟨l, hl⟩ : ∃ l, x.shares[k] = l := ⟨_, rfl⟩
  rw [hl] at h1 h2 ⊢
  obtain ⟨rd, wr⟩ := l
  show (⟨rd % 256, wr % 256⟩ : Shr) = ⟨rd, wr⟩
  (try dsimp only at h1 h2)
  rw [show rd % 256 = rd by omega, show wr % 256 = wr by omega]
theorem rd_from (h : FitI x) : gFrom (hdB x ++ C) = (hdB x).length := by
  unfold gFrom
  rw [rd_nc h, rd_nl h, rd_ns h, hdB_len]
theorem rd_lnN (h : FitI x) {k : Nat} (hk : k < x.comps.length) : lnN (hdB x ++ C) k = x.comps[k].bl.length := by
  unfold lnN
  rw [rd_len h hk]
  rfl
theorem rd_sum (h : FitI x) : ∀ k, k ≤ x.comps.length → gSum (hdB x ++ C) k = ((x.comps.take k).flatMap (·.bl)).length
  | 0, _ => by simp [gSum]
  | k + 1, hk => by
    show gSum _ k + lnN _ k = _
    rw [rd_sum h k (by omega), rd_lnN h (by omega), List.take_succ_eq_append_getElem (by omega), flat_snoc, List.length_append]
end

end Go.Proofs.Ytgldlkoohfclpaa
