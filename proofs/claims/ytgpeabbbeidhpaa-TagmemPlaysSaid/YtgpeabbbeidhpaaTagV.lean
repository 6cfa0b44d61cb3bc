/- Layer 7: the document's memory, fourth part. -/
import Derived.Test.YtgpeabbbeidhpaaTagT
namespace Go.Proofs.Ytgpeabbbeidhpaa
set_option linter.unusedSimpArgs false
set_option linter.unusedVariables false
open Go.RowKit

/-- A row of numbers that a call has made. -/
def RowNIs (w : World) (l : List Nat) (e : Ending) (w' : World) : Prop := ∃ A ca, e = .returned (.slice A l.length ca) ∧ Hid (RdN w' A l) ∧ Hid (Ext w w') ∧ Hid (∀ b o, A = some ⟨b, o, none⟩ → w.heap.size ≤ b)
theorem anyB_at {b : Nat → Bool} {i : Nat} (hi : i < 16) (h : b i = true) : anyB b = true := by
  unfold anyB
  exact List.any_eq_true.2 ⟨i, List.mem_range.2 hi, h⟩
theorem anyB_none {b : Nat → Bool} (h : anyB b = false) : ∀ i, i < 16 → b i = false := fun i hi => by
  unfold anyB at h
  have := List.any_eq_false.1 h i (List.mem_range.2 hi)
  simpa using this
theorem anyB_all {b : Nat → Bool} (h : ∀ i, i < 16 → b i = false) : anyB b = false := by
  unfold anyB
  exact List.any_eq_false.2 fun i hi => by rw [h i (List.mem_range.1 hi)]; exact Bool.false_ne_true
set_option maxRecDepth 100000 in
set_option maxHeartbeats 4000000 in
theorem rmclean_no (r gb gt gp n nb nt : Nat) (B : Nat → Int) (T D : Nat → Bool) (w : World) (h : Rm w r gb gt gp n nb nt B T D) (x : Int) (hc : x < 0 ∨ (n : Int) ≤ x) : Calls Try.prog 17 #[.pointer (some ⟨r, 0, none⟩), .int .i64 x] w fun e w' => e = .returned (.bool false) ∧ w = w' := by
  have HH := hid h
  have c2 := h.c2
  have hlr := h.lr
  have hlb := h.lb
  have hlt := h.lt
  have hlp := h.lp
  have hbd := h.bd
  have heb : nb ≤ 16777216 := by have := h.eb; omega
  have het : nt ≤ 1048576 := by have := h.et; omega
  obtain ⟨e1, e2, e3, e4, e5, e6⟩ := h.ne
  by_cases h0 : x < 0
  · clear hc h
    go_enter Try.func17, Try.ntmps17
    go_wp2
    go_ret
    exact ⟨rfl, rfl⟩
  · have h1 : (n : Int) ≤ x := by omega
    clear hc h
    go_enter Try.func17, Try.ntmps17
    go_wp2
    go_ret
    exact ⟨rfl, rfl⟩
set_option maxRecDepth 100000 in
set_option maxHeartbeats 4000000 in
theorem rmclean_any (r gb gt gp n nb nt : Nat) (B : Nat → Int) (T D : Nat → Bool) (w : World) (h : Rm w r gb gt gp n nb nt B T D) (p : Nat) (hp : p < n) (ha : anyB (fun j => T (16 * p + j)) = true) : Calls Try.prog 17 #[.pointer (some ⟨r, 0, none⟩), .int .i64 (p : Int)] w fun e w' => e = .returned (.bool false) ∧ w = w' := by
  have HH := hid h
  have c2 := h.c2
  have c1 := h.c1
  have hlr := h.lr
  have hlb := h.lb
  have hlt := h.lt
  have hlp := h.lp
  have hbd := h.bd
  have heb : nb ≤ 16777216 := by have := h.eb; omega
  have het : nt ≤ 1048576 := by have := h.et; omega
  obtain ⟨e1, e2, e3, e4, e5, e6⟩ := h.ne
  have hp0 : (0 : Int) ≤ (p : Int) := by omega
  have hp1 : (p : Int) < (n : Int) := by omega
  have hpb : (p : Int) ≤ 65536 := by omega
  have hnt : 16 * p + 16 ≤ nt := by have := h.et; omega
  have HA := hid ha
  clear h ha
  go_enter Try.func17, Try.ntmps17
  go_wp2
  go_loopw [5] (fun i wr => ∃ k : Nat, k ≤ 16 ∧ i = .int .i64 (16 * (p : Int) + (k : Int)) ∧ wr = w ∧ Hid (∀ j, j < k → T (16 * p + j) = false)) (fun i _ => (16 * (p : Int) + 16 - intOf i).toNat)
  case atStart => exact ⟨0, by omega, by simp, (by first | rfl | trivial), hid (fun j hj => absurd hj (Nat.not_lt_zero _))⟩
  case round =>
    obtain ⟨k, hk, rfl, rfl, HK⟩ := hrel
    have hk0 : (0 : Int) ≤ (k : Int) := by omega
    by_cases hlt' : k < 16
    · have hk1 : 16 * (p : Int) + (k : Int) < 16 * (p : Int) + 16 := by omega
      have hk2 : 16 * (p : Int) + (k : Int) < (nt : Int) := by omega
      have hk3 : (0 : Int) ≤ 16 * (p : Int) + (k : Int) := by omega
      have htg := (HH.out.tg (16 * p + k) (by omega)).1
      have hti : (16 * (p : Int) + (k : Int)).toNat = 16 * p + k := by omega
      cases hT : T (16 * p + k) with
      | true =>
        rw [hT] at htg
        have HT := hid hT
        clear hT
        go_wp2
        go_ret
        first | exact ⟨rfl, rfl⟩ | exact ⟨trivial, rfl⟩ | exact ⟨rfl, trivial⟩ | exact ⟨trivial, trivial⟩ | trivial
      | false =>
        rw [hT] at htg
        have HK2 : Hid (∀ j, j < k + 1 → T (16 * p + j) = false) := hid (upto_snoc HK.out hT)
        clear hT HK
        go_wp2
        go_roundw
        case rel => exact ⟨k + 1, by omega, by go_num, (by first | rfl | trivial), HK2⟩
        case measure => simp [intOf]; omega
    · obtain rfl : k = 16 := by omega
      have hk1 : ¬ 16 * (p : Int) + 16 < 16 * (p : Int) + 16 := by omega
      exfalso
      have := HA.out
      rw [anyB_all HK.out] at this
      cases this
set_option maxRecDepth 100000 in
set_option maxHeartbeats 4000000 in
theorem rmclean_yes (r gb gt gp n nb nt : Nat) (B : Nat → Int) (T D : Nat → Bool) (w : World) (h : Rm w r gb gt gp n nb nt B T D) (p : Nat) (hp : p < n) (ha : anyB (fun j => T (16 * p + j)) = false) : Calls Try.prog 17 #[.pointer (some ⟨r, 0, none⟩), .int .i64 (p : Int)] w fun e w' => e = .returned (.bool true) ∧ Hid (Rm w' r gb gt gp n nb nt B T (upd1 D p false)) ∧ Hid (Only (Tri gb gt gp) w w') := by
  have HH := hid h
  have c2 := h.c2
  have c1 := h.c1
  have hlr := h.lr
  have hlb := h.lb
  have hlt := h.lt
  have hlp := h.lp
  have hbd := h.bd
  have heb : nb ≤ 16777216 := by have := h.eb; omega
  have het : nt ≤ 1048576 := by have := h.et; omega
  obtain ⟨e1, e2, e3, e4, e5, e6⟩ := h.ne
  have hp0 : (0 : Int) ≤ (p : Int) := by omega
  have hp1 : (p : Int) < (n : Int) := by omega
  have hpb : (p : Int) ≤ 65536 := by omega
  have hnt : 16 * p + 16 ≤ nt := by have := h.et; omega
  have HA := hid ha
  have hdt := (h.dt p hp).1
  have hft := (h.dt p hp).2
  generalize D p = dv at hdt
  have HM := hid (h.setD hp false)
  have HO : Hid (Only (Tri gb gt gp) w (w.setCell ⟨gp, p, none⟩ (.bool false))) := hid (Only.setCell (Only.refl _ _) (.inl (.inr (.inr rfl))) _)
  clear h ha
  go_enter Try.func17, Try.ntmps17
  go_wp2
  go_loopw [5] (fun i wr => ∃ k : Nat, k ≤ 16 ∧ i = .int .i64 (16 * (p : Int) + (k : Int)) ∧ wr = w ∧ Hid (∀ j, j < k → T (16 * p + j) = false)) (fun i _ => (16 * (p : Int) + 16 - intOf i).toNat)
  case atStart => exact ⟨0, by omega, by simp, (by first | rfl | trivial), hid (fun j hj => absurd hj (Nat.not_lt_zero _))⟩
  case round =>
    obtain ⟨k, hk, rfl, rfl, HK⟩ := hrel
    have hk0 : (0 : Int) ≤ (k : Int) := by omega
    by_cases hlt' : k < 16
    · have hk1 : 16 * (p : Int) + (k : Int) < 16 * (p : Int) + 16 := by omega
      have hk2 : 16 * (p : Int) + (k : Int) < (nt : Int) := by omega
      have hk3 : (0 : Int) ≤ 16 * (p : Int) + (k : Int) := by omega
      have htg := (HH.out.tg (16 * p + k) (by omega)).1
      have hti : (16 * (p : Int) + (k : Int)).toNat = 16 * p + k := by omega
      cases hT : T (16 * p + k) with
      | true =>
        rw [hT] at htg
        have HT := hid hT
        clear hT
        go_wp2
        exfalso
        have := anyB_none HA.out k hlt'
        rw [HT.out] at this
        cases this
      | false =>
        rw [hT] at htg
        have HK2 : Hid (∀ j, j < k + 1 → T (16 * p + j) = false) := hid (upto_snoc HK.out hT)
        clear hT HK
        go_wp2
        go_roundw
        case rel => exact ⟨k + 1, by omega, by go_num, (by first | rfl | trivial), HK2⟩
        case measure => simp [intOf]; omega
    · obtain rfl : k = 16 := by omega
      have hk1 : ¬ 16 * (p : Int) + 16 < 16 * (p : Int) + 16 := by omega
      go_wp2
      go_ret
      exact ⟨rfl, HM, HO⟩
set_option maxRecDepth 100000 in
set_option maxHeartbeats 4000000 in
theorem rmtags_ (r gb gt gp n nb nt : Nat) (B : Nat → Int) (T D : Nat → Bool) (w : World) (h : Rm w r gb gt gp n nb nt B T D) : Calls Try.prog 26 #[.pointer (some ⟨r, 0, none⟩)] w fun e w' => RowNIs w ((whichN T nt).map (16 * ·)) e w' := by
  have HH := hid h
  have c1 := h.c1
  have hlr := h.lr
  have hlb := h.lb
  have hlt := h.lt
  have hlp := h.lp
  have hbd := h.bd
  have heb : nb ≤ 16777216 := by have := h.eb; omega
  have het : nt ≤ 1048576 := by have := h.et; omega
  obtain ⟨e1, e2, e3, e4, e5, e6⟩ := h.ne
  obtain ⟨i0, hi0, hz0, hz1, hz2⟩ := info_parts info_int
  have hmb : nt ≤ 1048576 := by omega
  clear h
  go_enter Try.func26, Try.ntmps26
  go_wp2
  clear c1 hlr hlb hlt hlp
  go_loopw [3, 4] (fun v i wr => ∃ k : Nat, k ≤ nt ∧ i = .int .i64 k ∧ Hid (ownsAt wr w.heap.size 3 1 v ((whichN T k).map (16 * ·)).length (ints ((whichN T k).map (16 * ·)))) ∧ Hid (Ext w wr)) (fun _ i _ => nt - (intOf i).toNat)
  case atStart => exact ⟨0, Nat.zero_le _, rfl, hid (ownsAt_nil _ _ _ _), hid (Ext.refl _)⟩
  case round =>
    obtain ⟨k, hk, rfl, HO, HE⟩ := hrel
    have hk0 : (0 : Int) ≤ (k : Int) := by omega
    have HM := hid (HH.out.ext HE.out)
    have c1 := HM.out.c1
    have hlr := HM.out.lr
    have hlt := HM.out.lt
    by_cases hlt' : k < nt
    · have hk1 : (k : Int) < (nt : Int) := by omega
      have hdt := (HM.out.tg k hlt').1
      have hwl := whichN_len T k
      cases hD : T k with
      | false =>
        rw [hD] at hdt
        have HW := hid (whichN_no hD)
        clear hD
        go_wp2
        go_roundw
        case rel => exact ⟨k + 1, by omega, by go_num, by rw [HW.out]; exact HO, HE⟩
        case measure => simp [intOf]; omega
      | true =>
        rw [hD] at hdt
        have HW := hid (whichN_yes hD)
        clear hD
        go_wp2_with (at_builtin; refine wpList_plain rfl fun K hK => ?_; refine wp_append_at _ _ _ 42 rfl w.heap.size 3 i0 _ 1 8 Try.underlying42 hi0 hz0 hz1 hz2 rfl (by decide) _ _ _ rfl (HO.out.ext (Ext.alloc (Ext.refl _) _)) ⟨wr.heap.size, 0, none⟩ 1 1 [.int .i64 (16 * (k : Int))] rfl rfl (fun j u hj => by rw [Addr.add_lit]; exact (Row.new wr #[.int .i64 (16 * (k : Int))] _).range j u hj) (fun u hu => by simp at hu; subst hu; rfl) (by unfold maxLen; (try simp only [List.length_map]); omega) (by (try simp only [List.length_map]); omega) (by have := HE.out.size; simp; omega) (by decide) ?_; intro v5 w5 hown5 hgrow5 hat5; refine hK _ _ ?_)
        have HO5 : Hid (ownsAt w5 w.heap.size 3 1 v5 ((whichN T (k + 1)).map (16 * ·)).length (ints ((whichN T (k + 1)).map (16 * ·)))) := hid (by
          rw [HW.out, List.map_append, ints_append, List.length_append]
          exact hown5)
        have HE5 : Hid (Ext w w5) := hid (Ext.only (HE.out.trans (Ext.alloc (Ext.refl _) _)) (grownOnly (S := fun i => w.heap.size ≤ i) hgrow5 (fun g e => (HO.out.lt g e).1)) (fun i hi => hi))
        clear hown5 hgrow5 hat5
        go_wp2
        go_roundw
        case rel => exact ⟨k + 1, by omega, by go_num, HO5, HE5⟩
        case measure => simp [intOf]; omega
    · obtain rfl : nt = k := by omega
      have hk1 : ¬ (nt : Int) < (nt : Int) := by omega
      obtain ⟨A, ca, rfl, _, _⟩ := HO.out.shape
      go_wp2
      go_ret
      exact ⟨A, ca, (by first | rfl | (rw [List.length_map]; rfl)), hid (HO.out.rdN rfl), HE, hid (fun b o e => by subst e; exact (HO.out.lt b rfl).1)⟩
set_option maxRecDepth 100000 in
set_option maxHeartbeats 4000000 in
theorem rmdirty_ (r gb gt gp n nb nt : Nat) (B : Nat → Int) (T D : Nat → Bool) (w : World) (h : Rm w r gb gt gp n nb nt B T D) : Calls Try.prog 28 #[.pointer (some ⟨r, 0, none⟩)] w fun e w' => RowNIs w (whichN D n) e w' := by
  have HH := hid h
  have c2 := h.c2
  have hlr := h.lr
  have hlb := h.lb
  have hlt := h.lt
  have hlp := h.lp
  have hbd := h.bd
  have heb : nb ≤ 16777216 := by have := h.eb; omega
  have het : nt ≤ 1048576 := by have := h.et; omega
  obtain ⟨e1, e2, e3, e4, e5, e6⟩ := h.ne
  obtain ⟨i0, hi0, hz0, hz1, hz2⟩ := info_parts info_int
  have hmb : n ≤ 1048576 := by omega
  clear h
  go_enter Try.func28, Try.ntmps28
  go_wp2
  clear c2 hlr hlb hlt hlp
  go_loopw [3, 4] (fun v i wr => ∃ k : Nat, k ≤ n ∧ i = .int .i64 k ∧ Hid (ownsAt wr w.heap.size 3 1 v (whichN D k).length (ints (whichN D k))) ∧ Hid (Ext w wr)) (fun _ i _ => n - (intOf i).toNat)
  case atStart => exact ⟨0, Nat.zero_le _, rfl, hid (ownsAt_nil _ _ _ _), hid (Ext.refl _)⟩
  case round =>
    obtain ⟨k, hk, rfl, HO, HE⟩ := hrel
    have hk0 : (0 : Int) ≤ (k : Int) := by omega
    have HM := hid (HH.out.ext HE.out)
    have c2 := HM.out.c2
    have hlr := HM.out.lr
    have hlp := HM.out.lp
    by_cases hlt' : k < n
    · have hk1 : (k : Int) < (n : Int) := by omega
      have hdt := (HM.out.dt k hlt').1
      have hwl := whichN_len D k
      cases hD : D k with
      | false =>
        rw [hD] at hdt
        have HW := hid (whichN_no hD)
        clear hD
        go_wp2
        go_roundw
        case rel => exact ⟨k + 1, by omega, by go_num, by rw [HW.out]; exact HO, HE⟩
        case measure => simp [intOf]; omega
      | true =>
        rw [hD] at hdt
        have HW := hid (whichN_yes hD)
        clear hD
        go_wp2_with (at_builtin; refine wpList_plain rfl fun K hK => ?_; refine wp_append_at _ _ _ 42 rfl w.heap.size 3 i0 _ 1 8 Try.underlying42 hi0 hz0 hz1 hz2 rfl (by decide) _ _ _ rfl (HO.out.ext (Ext.alloc (Ext.refl _) _)) ⟨wr.heap.size, 0, none⟩ 1 1 [.int .i64 (k : Int)] rfl rfl (fun j u hj => by rw [Addr.add_lit]; exact (Row.new wr #[.int .i64 (k : Int)] _).range j u hj) (fun u hu => by simp at hu; subst hu; rfl) (by unfold maxLen; (try simp only [List.length_map]); omega) (by (try simp only [List.length_map]); omega) (by have := HE.out.size; simp; omega) (by decide) ?_; intro v5 w5 hown5 hgrow5 hat5; refine hK _ _ ?_)
        have HO5 : Hid (ownsAt w5 w.heap.size 3 1 v5 (whichN D (k + 1)).length (ints (whichN D (k + 1)))) := hid (by
          rw [HW.out, ints_append, List.length_append]
          exact hown5)
        have HE5 : Hid (Ext w w5) := hid (Ext.only (HE.out.trans (Ext.alloc (Ext.refl _) _)) (grownOnly (S := fun i => w.heap.size ≤ i) hgrow5 (fun g e => (HO.out.lt g e).1)) (fun i hi => hi))
        clear hown5 hgrow5 hat5
        go_wp2
        go_roundw
        case rel => exact ⟨k + 1, by omega, by go_num, HO5, HE5⟩
        case measure => simp [intOf]; omega
    · obtain rfl : n = k := by omega
      have hk1 : ¬ (n : Int) < (n : Int) := by omega
      obtain ⟨A, ca, rfl, _, _⟩ := HO.out.shape
      go_wp2
      go_ret
      exact ⟨A, ca, (by first | rfl | (rw [List.length_map]; rfl)), hid (HO.out.rdN rfl), HE, hid (fun b o e => by subst e; exact (HO.out.lt b rfl).1)⟩

end Go.Proofs.Ytgpeabbbeidhpaa
