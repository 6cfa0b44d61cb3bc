/- Layer 8: the document's rows. -/
import Derived.Test.YtgjjimpialgojaaShaS
namespace Go.Proofs.Ytgjjimpialgojaa
set_option linter.unusedSimpArgs false
set_option linter.unusedVariables false
open Go.RowKit


theorem row_start {P : Nat → Bool} {k : Nat} (hp : P k = true) (hq : k = 0 ∨ P (k - 1) = false) : rowsP P (k + 1) = rowsP P k ++ [(k, k + 1)] := by
  rcases List.eq_nil_or_concat (rowsP P k) with hL | ⟨L, x, hL⟩
  · rw [rowsP_first hp hL, hL]
    rfl
  · obtain ⟨a, b⟩ := x
    rw [List.concat_eq_append] at hL
    have hG := rows_good P k
    have hx : RowGood P k (a, b) := by
      have h1 := hG.each
      rw [hL] at h1
      have := h1 L.length (by simp)
      simpa using this
    refine rowsP_new hp hL fun e => ?_
    have h1 := hx.lt
    have h2 := hx.le
    simp at h1 h2
    rcases hq with h | h
    · omega
    · have := hx.all (k - 1) (by show a ≤ k - 1; omega) (by show k - 1 < b; omega)
      rw [h] at this
      cases this
theorem row_run {P : Nat → Bool} {k : Nat} (hq : k = 0 ∨ P (k - 1) = false) : ∀ d, (∀ j, k ≤ j → j < k + d + 1 → P j = true) → rowsP P (k + d + 1) = rowsP P k ++ [(k, k + d + 1)]
  | 0, h => row_start (h k (Nat.le_refl _) (by omega)) hq
  | d + 1, h => by
    have ih := row_run hq d fun j h1 h2 => h j h1 (by omega)
    exact rowsP_more (h (k + d + 1) (by omega) (by omega)) ih
theorem row_run' {P : Nat → Bool} {k e : Nat} (hq : k = 0 ∨ P (k - 1) = false) (hke : k < e) (h : ∀ j, k ≤ j → j < e → P j = true) : rowsP P e = rowsP P k ++ [(k, e)] := by
  obtain ⟨d, rfl⟩ : ∃ d, e = k + d + 1 := ⟨e - k - 1, by omega⟩
  exact row_run hq d h
theorem news_two (wr : World) (x y : Int) (t : TypeId) : ∀ (j : Nat) (u : Value), ([Value.int .i64 x, Value.int .i64 y] : List Value)[j]? = some u → (wr.alloc (.cells #[.int .i64 x, .int .i64 y] t)).cell? ((⟨wr.heap.size, 0, none⟩ : Addr).add j) = some u := by
  intro i u hi
  rw [Addr.add_lit]
  have hi2 : i = 0 ∨ i = 1 := by
    have h := (List.getElem?_eq_some_iff.1 hi).1
    simp at h
    omega
  rcases hi2 with rfl | rfl <;> (simp at hi; subst hi; simp [go_sem])
theorem one_two (x y : Int) : ∀ u ∈ ([Value.int .i64 x, Value.int .i64 y] : List Value), u.oneCell' = true := by
  intro u hu
  simp at hu
  rcases hu with rfl | rfl <;> rfl
set_option maxHeartbeats 4000000 in
theorem rruns_ (p q n : Nat) (P : Nat → Bool) (w : World) (h : Rf w p q n P) :
    Calls Try.prog 21 #[.pointer (some ⟨p, 0, none⟩)] w fun e w' => RunsIs n P w e w' := by
  obtain ⟨i0, hi0, hz0, hz1, hz2⟩ := info_parts info_two
  have hbd := h.bd
  have HH := hid h
  clear h
  go_enter Try.func21, Try.ntmps21
  go_wp2
  go_loopw [3, 4] (fun v iv wr => ∃ k : Nat, k ≤ n + 1 ∧ iv = .int .i64 (k : Int) ∧ Hid (OwnW wr w.heap.size v (rowsP P k)) ∧ Hid (k = 0 ∨ P (k - 1) = false) ∧ Hid (Ext w wr)) (fun _ iv _ => n + 1 - (intOf iv).toNat)
  case atStart => exact ⟨0, Nat.zero_le _, rfl, hid (by exact OwnW.nil _ _), hid (.inl rfl), hid (Ext.refl _)⟩
  case round =>
    obtain ⟨k, hk, rfl, hown, hpv, HX⟩ := hrel
    have HS := hid (HH.out.ext HX.out)
    have h0 := HS.out.c0
    have hlp := HS.out.ltp
    have hlq := HS.out.ltq
    by_cases hlt : k < n
    · have hk0 : (0 : Int) ≤ (k : Int) := by omega
      have hk1 : (k : Int) < (n : Int) := by omega
      obtain ⟨hc, _⟩ := HS.out.grans k hlt
      cases hp : P k with
      | false =>
        rw [hp] at hc
        have HP := hid hp
        have HN := hid (rowsP_no hp)
        have HO2 := hid (HN.out.symm ▸ hown.out)
        clear hp
        go_wp2
        go_roundw
        case rel => exact ⟨k + 1, by omega, by first | rfl | go_num, HO2, hid (.inr HP.out), HX⟩
        case measure => first | (simp [intOf]; done) | (simp [intOf]; omega)
      | true =>
        rw [hp] at hc
        have HP := hid hp
        clear hp
        go_wp2
        clear hc
        go_loop [5] (fun iv => ∃ e : Nat, k ≤ e ∧ e ≤ n ∧ iv = .int .i64 (e : Int) ∧ Hid (∀ j, k ≤ j → j < e → P j = true)) (fun iv => n - (intOf iv).toNat)
        case atStart => exact ⟨k, Nat.le_refl _, by omega, rfl, hid fun j h1 h2 => absurd h1 (by omega)⟩
        case round =>
          obtain ⟨e, hek, hen, rfl, hall⟩ := hrel
          by_cases hel : e < n
          · have he0 : (0 : Int) ≤ (e : Int) := by omega
            have he1 : (e : Int) < (n : Int) := by omega
            obtain ⟨hce, _⟩ := HS.out.grans e hel
            cases hpe : P e with
            | true =>
              rw [hpe] at hce
              have HA := hid (show ∀ j, k ≤ j → j < e + 1 → P j = true from fun j h1 h2 => by
                by_cases e2 : j = e
                · rw [e2]; exact hpe
                · exact hall.out j h1 (by omega))
              clear hpe
              go_wp2
              go_round
              case rel => exact ⟨e + 1, by omega, by omega, by first | rfl | go_num, HA⟩
              case measure => first | (simp [intOf]; done) | (simp [intOf]; omega)
            | false =>
              have hke : k < e := by
                rcases Nat.lt_or_ge k e with h | h
                · exact h
                · exfalso
                  have e1 : e = k := by omega
                  subst e1
                  first | omega | (rw [HP.out] at hpe; cases hpe)
              have HPE := hid hpe
              have HN := hid (show rowsP P (e + 1) = rowsP P k ++ [(k, e)] by rw [rowsP_no hpe]; exact row_run' hpv.out hke hall.out)
              rw [hpe] at hce
              clear hpe
              have hr0 := hown.out
              go_wp2_with (at_builtin; refine wpList_append_own _ rfl _ _ 37 rfl w.heap.size 42 i0 _ 2 16 Try.underlying37 hi0 hz0 hz1 hz2 rfl (by decide) _ _ _ rfl (World.ownsRow.alloc hr0 _) _ 1 1 [.int .i64 (16 * (k : Int)), .int .i64 (16 * (e : Int))] rfl rfl (news_two wr _ _ _) (one_two _ _) (by unfold maxLen; have := rowsP_len P k; omega) (by have := rowsP_len P k; omega) (by have := HX.out.size; simp; omega) ?_)
              intro v1 w1 hown1 hg1 _
              have hx1 : Ext w w1 := Ext.owned (Ext.trans HX.out (Ext.alloc (Ext.refl wr) _)) (World.ownsRow.alloc hr0 _) hg1
              have hown2 : OwnW w1 w.heap.size v1 (rowsP P (e + 1)) := by
                rw [HN.out]
                unfold OwnW
                rw [rowsV_append, List.length_append]
                exact hown1
              have HQ := hid (And.intro hown2 hx1)
              clear hown1 hg1 hx1 hown2 hr0
              go_wp2
              go_roundw
              case rel => exact ⟨e + 1, by omega, by first | rfl | go_num, hid HQ.out.1, hid (.inr (by rw [show e + 1 - 1 = e by omega]; exact HPE.out)), hid HQ.out.2⟩
              case measure => first | (simp [intOf]; done) | (simp [intOf]; omega)
          · have hne : ¬ (e : Int) < (n : Int) := by omega
            have he0 : (0 : Int) ≤ (e : Int) := by omega
            have hpe : P e = false := HH.out.out e (by omega)
            have hke : k < e := by
              rcases Nat.lt_or_ge k e with h | h
              · exact h
              · exfalso
                have e1 : e = k := by omega
                subst e1
                first | omega | (rw [HP.out] at hpe; cases hpe)
            have HPE := hid hpe
            have HN := hid (show rowsP P (e + 1) = rowsP P k ++ [(k, e)] by rw [rowsP_no hpe]; exact row_run' hpv.out hke hall.out)
            clear hpe
            have hr0 := hown.out
            go_wp2_with (at_builtin; refine wpList_append_own _ rfl _ _ 37 rfl w.heap.size 42 i0 _ 2 16 Try.underlying37 hi0 hz0 hz1 hz2 rfl (by decide) _ _ _ rfl (World.ownsRow.alloc hr0 _) _ 1 1 [.int .i64 (16 * (k : Int)), .int .i64 (16 * (e : Int))] rfl rfl (news_two wr _ _ _) (one_two _ _) (by unfold maxLen; have := rowsP_len P k; omega) (by have := rowsP_len P k; omega) (by have := HX.out.size; simp; omega) ?_)
            intro v1 w1 hown1 hg1 _
            have hx1 : Ext w w1 := Ext.owned (Ext.trans HX.out (Ext.alloc (Ext.refl wr) _)) (World.ownsRow.alloc hr0 _) hg1
            have hown2 : OwnW w1 w.heap.size v1 (rowsP P (e + 1)) := by
              rw [HN.out]
              unfold OwnW
              rw [rowsV_append, List.length_append]
              exact hown1
            have HQ := hid (And.intro hown2 hx1)
            clear hown1 hg1 hx1 hown2 hr0
            go_wp2
            go_roundw
            case rel => exact ⟨e + 1, by omega, by first | rfl | go_num, hid HQ.out.1, hid (.inr (by rw [show e + 1 - 1 = e by omega]; exact HPE.out)), hid HQ.out.2⟩
            case measure => first | (simp [intOf]; done) | (simp [intOf]; omega)
    · have HR := hid (show rowsP P k = rowsP P n by
        by_cases e : k = n
        · rw [e]
        · have e2 : k = n + 1 := by omega
          rw [e2, rowsP_no (HH.out.out n (Nat.le_refl _))])
      have ho := hown.out
      rw [HR.out] at ho
      obtain ⟨A, ca, rfl, hrd, hbs⟩ := ho.rd
      have HRD := hid hrd
      have hne : ¬ (k : Int) < (n : Int) := by omega
      clear hrd ho
      go_wp2
      go_ret
      exact ⟨A, ca, rfl, HRD.out, HX.out, hbs⟩


end Go.Proofs.Ytgjjimpialgojaa
