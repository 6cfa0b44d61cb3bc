/- Layer 19: frames: the live question. -/
import Derived.Test.YtfpfmjcajdknoaaFraJ
namespace Go.Proofs.Ytfpfmjcajdknoaa
set_option linter.unusedSimpArgs false
set_option linter.unusedVariables false
open Go.RowKit

theorem Stk.congr {w : World} {q base : Nat} {v : Value} {n : Nat} {L M : Nat → Cap} (h : Stk w q base v n L) (e : ∀ i, i < n * 5 → L i = M i) : Stk w q base v n M := by
  obtain ⟨h1, h2, h3, h4, h5⟩ := h
  exact ⟨h1, h2, h3, by rwa [capsList_congr e] at h4, h5⟩
theorem Stk.only {S : Nat → Prop} {w w' : World} {q base : Nat} {v : Value} {n : Nat} {L : Nat → Cap} (h : Stk w q base v n L) (x : Only S w w') (h1 : ¬ S q) (h2 : ∀ g, v.ownBlock = some g → ¬ S g) : Stk w' q base v n L :=
  ⟨Nat.lt_of_lt_of_le h.1 x.size, (x.cells q 0 h.1 h1).trans h.2.1, (x.frozens q 0 h.1 h1).trans h.2.2.1, ownsRow_only h.2.2.2.1 x h2, h.2.2.2.2⟩
theorem caps1_ (q base : Nat) (v : Value) (n : Nat) (L : Nat → Cap) (w : World) (h : Stk w q base v n L) (hn : n ≤ 100000) (h0 : 0 < n) :
    Calls Try.prog 12 #[.pointer (some ⟨q, 0, none⟩)] w fun e w' => ∃ g cap, e = .returned (.slice (some ⟨g, 0, none⟩) (n * 5) cap) ∧ w.heap.size ≤ g ∧ g < w'.heap.size ∧ n * 5 ≤ cap ∧ Hid (w'.ownsRow w.heap.size 29 6 (.slice (some ⟨g, 0, none⟩) (n * 5) cap) (n * 5) (capsList (n * 5) L)) ∧ Ext w w' := by
  refine (caps_ q base v n L w h hn).mono ?_
  rintro e w' ⟨v', rfl, ho, hx⟩
  obtain ⟨g, cap, rfl, hb, hlt⟩ := ho.out.form (by omega)
  obtain ⟨A, ca, e1, _, _, hc⟩ := owns_caps ho.out
  simp only [Value.slice.injEq] at e1
  exact ⟨g, cap, rfl, hb, hlt, by omega, ho, hx⟩
theorem Row.setCell {w : World} {b o j : Nat} {vs : List Value} (h : Row w b o vs) (hj : j < vs.length) (u : Value) : Row (w.setCell ⟨b, o + j, none⟩ u) b o (vs.set j u) := by
  have hp := (Row.put (vs := vs) (us := vs.set j u) h (by simp))
  refine ⟨by simpa using h.lt, fun i v hi => ?_, fun i hi => ?_⟩
  · by_cases e : i = j
    · subst e
      rw [List.getElem?_set_self hj] at hi
      have h1 := h.at_ i vs[i] (by simp)
      obtain rfl : u = v := by simpa using hi
      simp [go_sem, h1]
    · rw [List.getElem?_set_ne (fun h => e h.symm)] at hi
      have h1 := h.at_ i v hi
      have : ¬ o + i = o + j := by omega
      simp [go_sem, h1, this]
  · have h1 := h.free i (by simpa using hi)
    simp [go_sem, h1]
theorem owns_putC {w : World} {base g n cap k : Nat} {L : Nat → Cap} (h : w.ownsRow base 29 6 (.slice (some ⟨g, 0, none⟩) n cap) n (capsList n L)) (hk : k < n) (c : Cap) :
    (w.setCells g (k * 6) c.cells).ownsRow base 29 6 (.slice (some ⟨g, 0, none⟩) n cap) n (capsList n (upd L k c)) := by
  obtain ⟨ys, hys, hj⟩ := ownsRow_setCells c.cells (k * 6) w _ h (by rw [cells_length]; omega)
  have e : ys = capsList n (upd L k c) := by
    apply List.ext_getElem?
    intro j
    rw [hj j, cells_length]
    by_cases hlt : j < n * 6
    · have e2 := capsList_at n (upd L k c) (j / 6) (j % 6) (by omega) (by omega)
      have e1 := capsList_at n L (j / 6) (j % 6) (by omega) (by omega)
      rw [show j / 6 * 6 + j % 6 = j by omega] at e1 e2
      rw [e2]
      by_cases hi : k * 6 ≤ j ∧ j < k * 6 + 6
      · rw [if_pos hi, upd, if_pos (by omega), show j - k * 6 = j % 6 by omega]
      · rw [if_neg hi, e1, upd, if_neg (by omega)]
    · rw [if_neg (by omega), List.getElem?_eq_none (by rw [capsList_length]; omega), List.getElem?_eq_none (by rw [capsList_length]; omega)]
  rwa [e] at hys
theorem Row.six_at {w : World} {b o k : Nat} {vs us : List Value} (h : Row w b o vs) (_ : 0 ≤ k) (e : ∀ j v, us[j]? = some v → vs[k + j]? = some v) : Rng w b (o + k) us :=
  ⟨h.lt, fun j v hj => by have := h.at_ (k + j) v (e j v hj); rwa [← Nat.add_assoc] at this⟩
def Z0 : Nat → Cap := fun _ => nullC
def hF : Nat → Cap
  | 0 => ⟨true, 0, 8, 0, 4, 0⟩
  | 1 => ⟨false, 0, 0, 1, 0, 0⟩
  | 2 => ⟨false, 0, 0, 2, 0, 0⟩
  | 3 => ⟨false, 0, 0, 3, 0, 0⟩
  | _ => ⟨false, 0, 0, 4, 0, 0⟩
def hG : Nat → Cap
  | 0 => ⟨true, 0, 8, 0, 4, 0⟩
  | 1 => ⟨false, 0, 0, 1, 0, 0⟩
  | 2 => ⟨false, 0, 0, 2, 0, 0⟩
  | 3 => ⟨false, 0, 0, (-1), 0, 0⟩
  | _ => ⟨false, 0, 0, 4, 0, 0⟩
def hM : Nat → Cap
  | 0 => ⟨true, 0, 8, 0, 4, 0⟩
  | 1 => ⟨false, 0, 0, 1, 0, 0⟩
  | 2 => ⟨false, 0, 0, 2, 0, 0⟩
  | 3 => ⟨false, 0, 0, 3, 0, 0⟩
  | _ => ⟨false, 0, 0, 9, 0, 0⟩
theorem hF_one : ((#[.bool true, .int .i64 0, .int .i64 8, .int .i64 0, .int .i64 4, .int .i64 0, .bool false, .int .i64 0, .int .i64 0, .int .i64 1, .int .i64 0, .int .i64 0, .bool false, .int .i64 0, .int .i64 0, .int .i64 2, .int .i64 0, .int .i64 0, .bool false, .int .i64 0, .int .i64 0, .int .i64 3, .int .i64 0, .int .i64 0, .bool false, .int .i64 0, .int .i64 0, .int .i64 4, .int .i64 0, .int .i64 0] : Array Value).all (·.oneCell')) = true := by simp [Value.oneCell']
theorem hM_one : ((#[.bool true, .int .i64 0, .int .i64 8, .int .i64 0, .int .i64 4, .int .i64 0, .bool false, .int .i64 0, .int .i64 0, .int .i64 1, .int .i64 0, .int .i64 0, .bool false, .int .i64 0, .int .i64 0, .int .i64 2, .int .i64 0, .int .i64 0, .bool false, .int .i64 0, .int .i64 0, .int .i64 3, .int .i64 0, .int .i64 0, .bool false, .int .i64 0, .int .i64 0, .int .i64 9, .int .i64 0, .int .i64 0] : Array Value).all (·.oneCell')) = true := by simp [Value.oneCell']
theorem hZ_one : ((#[.bool false, .int .i64 0, .int .i64 0, .int .i64 0, .int .i64 0, .int .i64 0, .bool false, .int .i64 0, .int .i64 0, .int .i64 0, .int .i64 0, .int .i64 0, .bool false, .int .i64 0, .int .i64 0, .int .i64 0, .int .i64 0, .int .i64 0, .bool false, .int .i64 0, .int .i64 0, .int .i64 0, .int .i64 0, .int .i64 0, .bool false, .int .i64 0, .int .i64 0, .int .i64 0, .int .i64 0, .int .i64 0] : Array Value).all (·.oneCell')) = true := by simp [Value.oneCell']
theorem hG_right : allR 5 hG = false := by decide
theorem hF_right : allR 5 hF = true := by decide
theorem hM_right : allR (1 * 5) hM = true := by decide
theorem capsList_hF : capsList 5 hF = [.bool true, .int .i64 0, .int .i64 8, .int .i64 0, .int .i64 4, .int .i64 0, .bool false, .int .i64 0, .int .i64 0, .int .i64 1, .int .i64 0, .int .i64 0, .bool false, .int .i64 0, .int .i64 0, .int .i64 2, .int .i64 0, .int .i64 0, .bool false, .int .i64 0, .int .i64 0, .int .i64 3, .int .i64 0, .int .i64 0, .bool false, .int .i64 0, .int .i64 0, .int .i64 4, .int .i64 0, .int .i64 0] := rfl
set_option maxRecDepth 100000 in
set_option maxHeartbeats 4000000 in
theorem head_ (w : World) : Calls Try.prog 7 #[] w fun e w' => e = .returned (.bool true) ∧ Ext w w' := by
  go_enter Try.func7, Try.ntmps7
  go_upto_region 4 with (go_at_call 8; refine (new_ _ Z0).mono ?_; rintro e w1 ⟨b, rfl, hwb, hx1, hs1⟩)
  go_upto_region 5 with (with_reducible refine wpList_store_mid rfl 32 (.tmp 2) (.tmp 22) rfl w1.heap.size 0 #[.bool true, .int .i64 0, .int .i64 8, .int .i64 0, .int .i64 4, .int .i64 0, .bool false, .int .i64 0, .int .i64 0, .int .i64 1, .int .i64 0, .int .i64 0, .bool false, .int .i64 0, .int .i64 0, .int .i64 2, .int .i64 0, .int .i64 0, .bool false, .int .i64 0, .int .i64 0, .int .i64 3, .int .i64 0, .int .i64 0, .bool false, .int .i64 0, .int .i64 0, .int .i64 4, .int .i64 0, .int .i64 0] rfl rfl ((there_newAt rfl (by kernel_rfl)).2) (by kernel_rfl) hF_one ?_)
  refine wp_gen (fun W => Hid (Ext w1 W) ∧ Hid (Row W w1.heap.size 0 [.bool true, .int .i64 0, .int .i64 8, .int .i64 0, .int .i64 4, .int .i64 0, .bool false, .int .i64 0, .int .i64 0, .int .i64 1, .int .i64 0, .int .i64 0, .bool false, .int .i64 0, .int .i64 0, .int .i64 2, .int .i64 0, .int .i64 0, .bool false, .int .i64 0, .int .i64 0, .int .i64 3, .int .i64 0, .int .i64 0, .bool false, .int .i64 0, .int .i64 0, .int .i64 4, .int .i64 0, .int .i64 0])) ⟨hid (Ext.only (Ext.alloc (Ext.refl w1) _) (Only.setCells (S := fun i => i = w1.heap.size) (.inl rfl) _ _ (Only.refl _ _)) (by rintro i rfl; exact Nat.le_refl _)), hid ?hr⟩ ?_
  case hr => exact Row.put (Row.new w1 _ _) rfl
  rintro W2 ⟨hE2, hR2⟩
  have hs2 := hE2.out.size
  go_upto_region 6 with (first | (with_reducible refine wpList_load_mid rfl 32 (.tmp 2) rfl w1.heap.size 0 rfl [.bool true, .int .i64 0, .int .i64 8, .int .i64 0, .int .i64 4, .int .i64 0, .bool false, .int .i64 0, .int .i64 0, .int .i64 1, .int .i64 0, .int .i64 0, .bool false, .int .i64 0, .int .i64 0, .int .i64 2, .int .i64 0, .int .i64 0, .bool false, .int .i64 0, .int .i64 0, .int .i64 3, .int .i64 0, .int .i64 0, .bool false, .int .i64 0, .int .i64 0, .int .i64 4, .int .i64 0, .int .i64 0] _ (hR2.out.range) Try.underlying32 rfl (by kernel_rfl) ?_) | (with_reducible refine wpList_store_mid rfl 32 (.tmp 3) (.tmp 23) rfl W2.heap.size 0 #[.bool true, .int .i64 0, .int .i64 8, .int .i64 0, .int .i64 4, .int .i64 0, .bool false, .int .i64 0, .int .i64 0, .int .i64 1, .int .i64 0, .int .i64 0, .bool false, .int .i64 0, .int .i64 0, .int .i64 2, .int .i64 0, .int .i64 0, .bool false, .int .i64 0, .int .i64 0, .int .i64 3, .int .i64 0, .int .i64 0, .bool false, .int .i64 0, .int .i64 0, .int .i64 4, .int .i64 0, .int .i64 0] rfl rfl ((there_newAt rfl (by kernel_rfl)).2) (by kernel_rfl) hF_one ?_))
  refine wp_gen (fun W => Hid (Ext W2 W) ∧ Hid (Row W W2.heap.size 0 [.bool true, .int .i64 0, .int .i64 8, .int .i64 0, .int .i64 4, .int .i64 0, .bool false, .int .i64 0, .int .i64 0, .int .i64 1, .int .i64 0, .int .i64 0, .bool false, .int .i64 0, .int .i64 0, .int .i64 2, .int .i64 0, .int .i64 0, .bool false, .int .i64 0, .int .i64 0, .int .i64 3, .int .i64 0, .int .i64 0, .bool false, .int .i64 0, .int .i64 0, .int .i64 4, .int .i64 0, .int .i64 0])) ⟨hid (Ext.only (Ext.alloc (Ext.refl W2) _) (Only.setCells (S := fun i => i = W2.heap.size) (.inl rfl) _ _ (Only.refl _ _)) (by rintro i rfl; exact Nat.le_refl _)), hid ?hr⟩ ?_
  case hr => exact Row.put (Row.new W2 _ _) rfl
  rintro W3 ⟨hE3, hR3⟩
  have hcat := hR3.out.at_ 21 _ rfl
  have hcfr := hR3.out.free 21 (by simp)
  have hclt := hR3.out.lt
  simp only [Nat.zero_add] at hcat hcfr
  go_upto_region 7 with (fail)
  refine wp_gen (fun W => Hid (Ext w1 W) ∧ Hid (Row W w1.heap.size 0 [.bool true, .int .i64 0, .int .i64 8, .int .i64 0, .int .i64 4, .int .i64 0, .bool false, .int .i64 0, .int .i64 0, .int .i64 1, .int .i64 0, .int .i64 0, .bool false, .int .i64 0, .int .i64 0, .int .i64 2, .int .i64 0, .int .i64 0, .bool false, .int .i64 0, .int .i64 0, .int .i64 3, .int .i64 0, .int .i64 0, .bool false, .int .i64 0, .int .i64 0, .int .i64 4, .int .i64 0, .int .i64 0]) ∧ Hid (Row W W2.heap.size 0 [.bool true, .int .i64 0, .int .i64 8, .int .i64 0, .int .i64 4, .int .i64 0, .bool false, .int .i64 0, .int .i64 0, .int .i64 1, .int .i64 0, .int .i64 0, .bool false, .int .i64 0, .int .i64 0, .int .i64 2, .int .i64 0, .int .i64 0, .bool false, .int .i64 0, .int .i64 0, .int .i64 (-1), .int .i64 0, .int .i64 0, .bool false, .int .i64 0, .int .i64 0, .int .i64 4, .int .i64 0, .int .i64 0])) ⟨hid ?ha, hid ?hb, hid ?hc⟩ ?_
  case ha => exact Ext.only (hE2.out.trans hE3.out) (Only.setCell (S := fun i => i = W2.heap.size) (Only.refl _ _) (.inl rfl) _) (by rintro i rfl; exact hs2)
  case hb => exact (hR2.out.ext hE3.out).only (Only.setCell (S := fun i => i = W2.heap.size) (Only.refl _ _) (.inl rfl) _) (by have := hR2.out.lt; omega)
  case hc => exact Row.setCell (j := 21) hR3.out (by simp) _
  rintro W4 ⟨hE4, hR4, hR5⟩
  have hbf : ¬ w1.heap.size = b := by have := hs1.1; omega
  have hbg : ¬ W2.heap.size = b := by have := hs1.1; omega
  have hx4 := hid (hx1.trans hE4.out)
  have hs4 := hid (hs1.ext hE4.out)
  clear hcat hcfr hclt hR2 hR3 hE2 hE3 hE4 hs2 hx1 hs1
  generalize w1.heap.size = bf at hR4 hbf ⊢
  generalize W2.heap.size = bg at hR5 hbg ⊢
  go_upto_region 8 with (first | (with_reducible refine wpList_load_mid rfl 32 (.tmp 2) rfl bf 0 rfl [.bool true, .int .i64 0, .int .i64 8, .int .i64 0, .int .i64 4, .int .i64 0, .bool false, .int .i64 0, .int .i64 0, .int .i64 1, .int .i64 0, .int .i64 0, .bool false, .int .i64 0, .int .i64 0, .int .i64 2, .int .i64 0, .int .i64 0, .bool false, .int .i64 0, .int .i64 0, .int .i64 3, .int .i64 0, .int .i64 0, .bool false, .int .i64 0, .int .i64 0, .int .i64 4, .int .i64 0, .int .i64 0] _ (hR4.out.range) Try.underlying32 rfl (by kernel_rfl) ?_) | (go_at_call 15; refine (push_ b w.heap.size 0 _ Z0 hF _ hs4.out (by omega) hF_right).mono ?_; rintro e w5 ⟨v1, rfl, hs5, ho5, hn5⟩))
  have hT : ∀ i, tch b (.slice none 0 0) i → i = b := by
    rintro i (h | h)
    · exact h
    · cases h
  have ho5 := ho5.mono hT
  have hs5 := hid (Stk.congr hs5 (M := hF) (fun i hi => rfl))
  have hx5 : Hid (Ext w w5) := hid (Ext.only hx4.out ho5 (by rintro i rfl; exact hwb))
  have hR6 := hid (hR4.out.only ho5 hbf)
  have hR7 := hid (hR5.out.only ho5 hbg)
  have hvf : ¬ v1.ownBlock = some bf := fun h => by
    have := hR4.out.lt
    rcases hn5 bf h with h | h
    · cases h
    · omega
  clear hR4 hR5 hx4 hs4 ho5 hT hn5
  go_upto_region 9 with (first | (with_reducible refine wpList_load_mid rfl 32 (.tmp 3) rfl bg 0 rfl [.bool true, .int .i64 0, .int .i64 8, .int .i64 0, .int .i64 4, .int .i64 0, .bool false, .int .i64 0, .int .i64 0, .int .i64 1, .int .i64 0, .int .i64 0, .bool false, .int .i64 0, .int .i64 0, .int .i64 2, .int .i64 0, .int .i64 0, .bool false, .int .i64 0, .int .i64 0, .int .i64 (-1), .int .i64 0, .int .i64 0, .bool false, .int .i64 0, .int .i64 0, .int .i64 4, .int .i64 0, .int .i64 0] _ (hR7.out.range) Try.underlying32 rfl (by kernel_rfl) ?_) | (go_at_call 15; refine (push_no b w.heap.size 1 _ hF hG _ hs5.out (by omega) hG_right).mono ?_; rintro e w6 ⟨rfl, hx6⟩))
  have hs6 := hid (hs5.out.ext hx6)
  have hR4 := hid (hR6.out.ext hx6)
  have hx8 := hid (hx5.out.trans hx6)
  clear hs5 hx5 hR6 hR7 hx6
  go_upto_region 12 with (go_at_call 12; refine (caps1_ b w.heap.size v1 1 hF _ hs6.out (by omega) (by omega)).mono ?_; rintro e w7 ⟨g, cap, rfl, hgb, hgl, hcap, ho7, hx7⟩)
  have hs7 := hid (hs6.out.ext hx7)
  have hR5 := hid (hR4.out.ext hx7)
  have hx9 := hid (hx8.out.trans hx7)
  have hvg : ¬ v1.ownBlock = some g := fun h => by have := (hs6.out.2.2.2.1.lt g h).2; omega
  have hgb2 : ¬ b = g := by have := hs6.out.1; omega
  have hgb3 : ¬ bf = g := by have := hR4.out.lt; omega
  have hwg : w.heap.size ≤ g := by have := hx8.out.size; omega
  clear hs6 hR4 hx8 hx7
  go_upto_region 13 with (with_reducible refine wpList_store_mid rfl 29 (.tmp 40) (.tmp 39) rfl g 24 #[.bool false, .int .i64 0, .int .i64 0, .int .i64 9, .int .i64 0, .int .i64 0] rfl rfl (ownsRow_there ho7.out (by simp)) (by kernel_rfl) (by simp [Value.oneCell']) ?_)
  refine wp_gen (fun W => Hid (Only (fun i => i = g) w7 W) ∧ Hid (W.ownsRow w6.heap.size 29 6 (.slice (some ⟨g, 0, none⟩) (1 * 5) cap) (1 * 5) (capsList (1 * 5) (upd hF 4 ⟨false, 0, 0, 9, 0, 0⟩)))) ⟨hid (Only.setCells (S := fun i => i = g) (.inl rfl) _ _ (Only.refl _ _)), hid (owns_putC (k := 4) ho7.out (by omega) ⟨false, 0, 0, 9, 0, 0⟩)⟩ ?_
  rintro W8 ⟨ho8, how8⟩
  have hs8 := hid (hs7.out.only ho8.out hgb2 (fun g' h h2 => hvg (by rw [h, h2])))
  have hR6 := hid (hR5.out.only ho8.out hgb3)
  have hx10 : Hid (Ext w W8) := hid (Ext.only hx9.out ho8.out (by rintro i rfl; exact hwg))
  have hrd : Hid (RdC W8 (some ⟨g, 0, none⟩) (1 * 5) hM) := hid (by
    obtain ⟨A, ca, e1, hr, _, _⟩ := owns_caps how8.out
    simp only [Value.slice.injEq] at e1
    obtain ⟨rfl, _⟩ := e1
    intro h0
    obtain ⟨b', o', e, hi⟩ := hr h0
    exact ⟨b', o', e, fun i hi2 => by have := hi i hi2; rwa [show upd hF 4 ⟨false, 0, 0, 9, 0, 0⟩ i = hM i from by match i, hi2 with | 0, _ | 1, _ | 2, _ | 3, _ | 4, _ => rfl] at this⟩)
  have hap : ∀ b' o', (some ⟨g, 0, none⟩ : Option Addr) = some ⟨b', o', none⟩ → ¬ v1.ownBlock = some b' := by
    intro b' o' e h
    simp only [Option.some.injEq, Addr.mk.injEq] at e
    exact hvg (by rw [h, e.1])
  clear hs7 hR5 hx9 ho7 ho8 how8
  go_upto_region 14 with (go_at_call 13; refine (put_ b w.heap.size 1 cap (some ⟨g, 0, none⟩) v1 hF hM _ hs8.out (by omega) hrd.out hcap hap hM_right).mono ?_; rintro e w9 ⟨rfl, hs9, ho9⟩)
  have hvw : ∀ i, v1.ownBlock = some i → w.heap.size ≤ i := fun i h => (hs8.out.2.2.2.1.lt i h).1
  have hR7 : Hid (Row w9 bf 0 [.bool true, .int .i64 0, .int .i64 8, .int .i64 0, .int .i64 4, .int .i64 0, .bool false, .int .i64 0, .int .i64 0, .int .i64 1, .int .i64 0, .int .i64 0, .bool false, .int .i64 0, .int .i64 0, .int .i64 2, .int .i64 0, .int .i64 0, .bool false, .int .i64 0, .int .i64 0, .int .i64 3, .int .i64 0, .int .i64 0, .bool false, .int .i64 0, .int .i64 0, .int .i64 4, .int .i64 0, .int .i64 0]) := hid (hR6.out.only ho9 hvf)
  have hx11 : Hid (Ext w w9) := hid (Ext.only hx10.out ho9 (fun i h => hvw i h))
  have hs4 := hs9.1
  obtain ⟨g1, cap1, rfl, hg1b, hg1l⟩ := hs9.2.2.2.1.form (by omega)
  have hpop : ∀ w', Stk w' b w.heap.size (.slice (some ⟨g1, 0, none⟩) 1 cap1) 1 hM → Calls Try.prog 10 #[.pointer (some ⟨b, 0, none⟩)] w' fun e w'' => e = .returned (.tuple #[.agg #[.bool true, .int .i64 0, .int .i64 8, .int .i64 0, .int .i64 4, .int .i64 0, .bool false, .int .i64 0, .int .i64 0, .int .i64 1, .int .i64 0, .int .i64 0, .bool false, .int .i64 0, .int .i64 0, .int .i64 2, .int .i64 0, .int .i64 0, .bool false, .int .i64 0, .int .i64 0, .int .i64 3, .int .i64 0, .int .i64 0, .bool false, .int .i64 0, .int .i64 0, .int .i64 9, .int .i64 0, .int .i64 0], .bool true]) ∧ Only (· = b) w' w'' ∧ w''.cell? ⟨b, 0, none⟩ = some (.slice (some ⟨g1, 0, none⟩) 0 cap1) ∧ w''.frozen? ⟨b, 0, none⟩ = false := fun w' h => pop_ b w.heap.size g1 0 cap1 hM w' h (by omega)
  have hc4 : 4 ≤ cap := by omega
  have hc4i : (4 : Int) ≤ (cap : Int) := by omega
  clear hrd hR6 hs8 hap hx10
  go_upto_region 15 with (go_at_call 13; refine (put_len b w.heap.size 1 4 cap _ _ hM (fun _ => nullC) _ hs9 (by omega) (by omega) (by omega)).mono ?_; rintro e w10 ⟨rfl, rfl⟩)
  go_upto_region 16 with (first | (go_at_call 10; refine Calls.mono (hpop _ hs9) ?_; rintro e w10 ⟨rfl, ho10, hc10, hf10⟩) | (with_reducible refine wpList_store_mid rfl 32 (.tmp 9) (.tmp 51) rfl w10.heap.size 0 #[.bool true, .int .i64 0, .int .i64 8, .int .i64 0, .int .i64 4, .int .i64 0, .bool false, .int .i64 0, .int .i64 0, .int .i64 1, .int .i64 0, .int .i64 0, .bool false, .int .i64 0, .int .i64 0, .int .i64 2, .int .i64 0, .int .i64 0, .bool false, .int .i64 0, .int .i64 0, .int .i64 3, .int .i64 0, .int .i64 0, .bool false, .int .i64 0, .int .i64 0, .int .i64 9, .int .i64 0, .int .i64 0] rfl rfl ((there_newAt rfl (by kernel_rfl)).2) (by kernel_rfl) hM_one ?_))
  have hs10 := Stk.popped hs9 ho10 hc10 hf10
  refine wp_gen (fun W => Hid (Ext w10 W) ∧ Hid (Row W w10.heap.size 0 [.bool true, .int .i64 0, .int .i64 8, .int .i64 0, .int .i64 4, .int .i64 0, .bool false, .int .i64 0, .int .i64 0, .int .i64 1, .int .i64 0, .int .i64 0, .bool false, .int .i64 0, .int .i64 0, .int .i64 2, .int .i64 0, .int .i64 0, .bool false, .int .i64 0, .int .i64 0, .int .i64 3, .int .i64 0, .int .i64 0, .bool false, .int .i64 0, .int .i64 0, .int .i64 9, .int .i64 0, .int .i64 0])) ⟨hid (Ext.only (Ext.alloc (Ext.refl w10) _) (Only.setCells (S := fun i => i = w10.heap.size) (.inl rfl) _ _ (Only.refl _ _)) (by rintro i rfl; exact Nat.le_refl _)), hid ?hr⟩ ?_
  case hr => exact Row.put (Row.new w10 _ _) rfl
  rintro w11 ⟨hE11, hR11⟩
  have hs11 := hid (hs10.ext hE11.out)
  have hR12 := hid ((hR7.out.only ho10 hbf).ext hE11.out)
  have hx12' : Hid (Ext w w11) := hid ((Ext.only hx11.out ho10 (by rintro i rfl; exact hwb)).trans hE11.out)
  clear hR7 hs9 ho10 hc10 hf10 hs10 hE11 hx11
  generalize w10.heap.size = bt at hR11 ⊢
  go_upto_region 17 with (first | (go_at_call 10; refine (pop0_ b w.heap.size _ hM _ hs11.out).mono ?_; rintro e w12 ⟨rfl, hx12⟩) | (with_reducible refine wpList_store_mid rfl 32 (.tmp 11) (.tmp 56) rfl w12.heap.size 0 #[.bool false, .int .i64 0, .int .i64 0, .int .i64 0, .int .i64 0, .int .i64 0, .bool false, .int .i64 0, .int .i64 0, .int .i64 0, .int .i64 0, .int .i64 0, .bool false, .int .i64 0, .int .i64 0, .int .i64 0, .int .i64 0, .int .i64 0, .bool false, .int .i64 0, .int .i64 0, .int .i64 0, .int .i64 0, .int .i64 0, .bool false, .int .i64 0, .int .i64 0, .int .i64 0, .int .i64 0, .int .i64 0] rfl rfl ((there_newAt rfl (by kernel_rfl)).2) (by kernel_rfl) hZ_one ?_))
  refine wp_gen (fun W => Hid (Ext w12 W)) (hid (Ext.only (Ext.alloc (Ext.refl w12) _) (Only.setCells (S := fun i => i = w12.heap.size) (.inl rfl) _ _ (Only.refl _ _)) (by rintro i rfl; exact Nat.le_refl _))) ?_
  rintro w13 hE13
  have hx13 := hid (hx12.trans hE13.out)
  have hs13 := hid (hs11.out.ext hx13.out)
  have hRM := hid (hR11.out.ext hx13.out)
  have hRF := hid (hR12.out.ext hx13.out)
  have hX := hid (hx12'.out.trans hx13.out)
  have ha0 : Hid (Rng w13 bt 0 [.bool true, .int .i64 0, .int .i64 8, .int .i64 0, .int .i64 4, .int .i64 0]) := hid (hRM.out.six_at (o := 0) (k := 0) (by omega) (by intro j v hj; have hlt := (List.getElem?_eq_some_iff.1 hj).1; match j, hlt with | 0, _ | 1, _ | 2, _ | 3, _ | 4, _ | 5, _ => exact hj))
  have ha3 : Hid (Rng w13 bt 18 [.bool false, .int .i64 0, .int .i64 0, .int .i64 3, .int .i64 0, .int .i64 0]) := hid (hRM.out.six_at (o := 0) (k := 18) (by omega) (by intro j v hj; have hlt := (List.getElem?_eq_some_iff.1 hj).1; match j, hlt with | 0, _ | 1, _ | 2, _ | 3, _ | 4, _ | 5, _ => exact hj))
  have hb0 : Hid (Rng w13 bf 0 [.bool true, .int .i64 0, .int .i64 8, .int .i64 0, .int .i64 4, .int .i64 0]) := hid (hRF.out.six_at (o := 0) (k := 0) (by omega) (by intro j v hj; have hlt := (List.getElem?_eq_some_iff.1 hj).1; match j, hlt with | 0, _ | 1, _ | 2, _ | 3, _ | 4, _ | 5, _ => exact hj))
  have hb3 : Hid (Rng w13 bf 18 [.bool false, .int .i64 0, .int .i64 0, .int .i64 3, .int .i64 0, .int .i64 0]) := hid (hRF.out.six_at (o := 0) (k := 18) (by omega) (by intro j v hj; have hlt := (List.getElem?_eq_some_iff.1 hj).1; match j, hlt with | 0, _ | 1, _ | 2, _ | 3, _ | 4, _ | 5, _ => exact hj))
  have hc27 : w13.cell? ⟨bt, 27, none⟩ = some (.int .i64 9) := by have := hRM.out.at_ 27 _ rfl; simpa using this
  have hbtl : bt < w13.heap.size := hRM.out.lt
  have hbfl : bf < w13.heap.size := hRF.out.lt
  clear hRM hRF hx13 hE13 hR11 hR12 hs11 hx12'
  go_wp2_with (first | (with_reducible refine wpList_load_midG rfl 29 (.tmp 74) rfl bt 0 rfl [.bool true, .int .i64 0, .int .i64 8, .int .i64 0, .int .i64 4, .int .i64 0] _ (Rng.range ha0.out) Try.underlying29 rfl (by kernel_rfl) ?_) | (with_reducible refine wpList_load_midG rfl 29 (.tmp 76) rfl bf 0 rfl [.bool true, .int .i64 0, .int .i64 8, .int .i64 0, .int .i64 4, .int .i64 0] _ (Rng.range hb0.out) Try.underlying29 rfl (by kernel_rfl) ?_) | (with_reducible refine wpList_load_midG rfl 29 (.tmp 89) rfl bt 18 rfl [.bool false, .int .i64 0, .int .i64 0, .int .i64 3, .int .i64 0, .int .i64 0] _ (Rng.range ha3.out) Try.underlying29 rfl (by kernel_rfl) ?_) | (with_reducible refine wpList_load_midG rfl 29 (.tmp 92) rfl bf 18 rfl [.bool false, .int .i64 0, .int .i64 0, .int .i64 3, .int .i64 0, .int .i64 0] _ (Rng.range hb3.out) Try.underlying29 rfl (by kernel_rfl) ?_) | (go_at_call 17; refine (many_ b w.heap.size _ 0 hM _ hs13.out).mono ?_; rintro e w14 ⟨rfl, rfl⟩))
  go_ret
  exact ⟨rfl, hX.out⟩
end Go.Proofs.Ytfpfmjcajdknoaa
