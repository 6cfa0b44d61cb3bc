/- Layer 8: the rows of what is painted. -/
import Derived.Test.YtgjjimpialgojaaShaF
namespace Go.Proofs.Ytgjjimpialgojaa
set_option linter.unusedSimpArgs false
set_option linter.unusedVariables false
open Go.RowKit


def RunsIs (n : Nat) (P : Nat → Bool) (w : World) (e : Ending) (w' : World) : Prop := ∃ A ca, e = .returned (.slice A (rowsP P n).length ca) ∧ RdW w' A (rowsP P n) ∧ Ext w w' ∧ ∀ b o, A = some ⟨b, o, none⟩ → w.heap.size ≤ b
theorem rowsV_snoc_set (L : List (Nat × Nat)) (a b c : Nat) : (rowsV (L ++ [(a, b)])).set (L.length * 2 + 1) (.int .i64 (16 * (c : Int))) = rowsV (L ++ [(a, c)]) := by
  rw [rowsV_append, rowsV_append, List.set_append_right _ _ (by rw [rowsV_length]; omega), rowsV_length, show L.length * 2 + 1 - L.length * 2 = 1 by omega]
  rfl
set_option maxHeartbeats 2000000 in
theorem runs_ (p q n : Nat) (P : Nat → Bool) (w : World) (h : Sh w p q n P) :
    Calls Try.prog 20 #[.pointer (some ⟨p, 0, none⟩)] w fun e w' => RunsIs n P w e w' := by
  obtain ⟨i0, hi0, hz0, hz1, hz2⟩ := info_parts info_two
  have h0 := h.c0
  have hlp := h.ltp
  have hbd := h.bd
  have HH := hid h
  clear h
  go_enter Try.func20, Try.ntmps20
  go_wp2
  go_loopw [3, 12] (fun v iv wr => ∃ k : Nat, k ≤ n ∧ iv = .int .i64 (k : Int) ∧ Hid (OwnW wr w.heap.size v (rowsP P k)) ∧ Hid (Ext w wr)) (fun _ iv _ => n - (intOf iv).toNat)
  case atStart => exact ⟨0, Nat.zero_le _, rfl, hid (by exact OwnW.nil _ _), hid (Ext.refl _)⟩
  case round =>
    obtain ⟨k, hk, rfl, hown, HX⟩ := hrel
    by_cases hlt : k < n
    · have hk0 : (0 : Int) ≤ (k : Int) := by omega
      have hk1 : (k : Int) < (n : Int) := by omega
      have hkb : (k : Int) ≤ 1048575 := by omega
      have hL := rowsP_len P k
      have e16 : (k : Int) * 16 = 16 * (k : Int) := by omega
      have e17 : ((k : Int) + 1) * 16 = 16 * ((k : Int) + 1) := by omega
      cases hp : P k with
      | false =>
        have HP := hid hp
        have HN := hid (rowsP_no hp)
        have HO2 := hid (HN.out.symm ▸ hown.out)
        clear hp e16 e17
        go_wp2_with (go_at_call 24; (with_reducible refine Calls.mono (painted_ p q n k P _ (HH.out.ext HX.out) hlt) ?_); rw [HP.out]; rintro e w1 ⟨rfl, rfl⟩)
        go_roundw
        case rel => exact ⟨k + 1, by omega, by first | rfl | go_num, HO2, HX⟩
        case measure => first | (simp [intOf]; done) | (simp [intOf]; omega)
      | true =>
        have HP := hid hp
        rcases List.eq_nil_or_concat (rowsP P k) with hLn | ⟨L, x, hLc⟩
        · have HN := hid (show rowsP P (k + 1) = rowsP P k ++ [(k, k + 1)] by rw [rowsP_first hp hLn, hLn]; rfl)
          obtain ⟨A, ca, rfl, _, _⟩ := hown.out.rd
          have hr0 := hown.out
          have HLN := hid (show (rowsP P k).length = 0 by rw [hLn]; rfl)
          rw [HLN.out] at hr0 ⊢
          clear hp hLn
          go_wp2_with (first | (go_at_call 24; (with_reducible refine Calls.mono (painted_ p q n k P _ (HH.out.ext HX.out) hlt) ?_); rw [HP.out]; rintro e w1 ⟨rfl, rfl⟩) | (at_builtin; refine wpList_append_own _ rfl _ _ 37 rfl w.heap.size 42 i0 _ 2 16 Try.underlying37 hi0 hz0 hz1 hz2 rfl (by decide) _ _ _ rfl (World.ownsRow.alloc hr0 _) _ 1 1 [.int .i64 (16 * (k : Int)), .int .i64 (16 * ((k : Int) + 1))] rfl rfl ?c1 ?c2 ?c3 ?c4 ?c5 ?_))
          case c1 =>
            intro i u hi
            rw [Addr.add_lit]
            have hi2 : i = 0 ∨ i = 1 := by
              have h := (List.getElem?_eq_some_iff.1 hi).1
              simp at h
              omega
            rcases hi2 with rfl | rfl <;> (simp at hi; subst hi; simp [go_sem])
          case c2 =>
            intro u hu
            simp at hu
            rcases hu with rfl | rfl <;> rfl
          case c3 => unfold maxLen; have := rowsP_len P k; omega
          case c4 => have := rowsP_len P k; omega
          case c5 => have := HX.out.size; simp; omega
          intro v1 w1 hown1 hg1 _
          have hx1 : Ext w w1 := Ext.owned (Ext.trans HX.out (Ext.alloc (Ext.refl wr) _)) (World.ownsRow.alloc hr0 _) hg1
          have hs1 : Sh w1 p q n P := HH.out.ext hx1
          have hown2 : OwnW w1 w.heap.size v1 (rowsP P (k + 1)) := by
            rw [HN.out]
            unfold OwnW
            rw [rowsV_append, List.length_append]
            first | exact hown1 | (rw [HLEN.out]; exact hown1) | simpa [HLEN.out] using hown1
          have HQ := hid (And.intro hs1 (And.intro hown2 hx1))
          clear hown1 hg1 hx1 hs1 hown2 hr0
          go_wp2
          go_roundw
          case rel => exact ⟨k + 1, by omega, by first | rfl | go_num, hid HQ.out.2.1, hid HQ.out.2.2⟩
          case measure => first | (simp [intOf]; done) | (simp [intOf]; omega)
        · obtain ⟨a, b⟩ := x
          rw [List.concat_eq_append] at hLc
          obtain ⟨m, hm⟩ : ∃ m, L.length = m := ⟨_, rfl⟩
          have hlen : (rowsP P k).length = m + 1 := by rw [hLc]; simp [hm]
          have hr0 := hown.out
          obtain ⟨g, cap, hv, hgw⟩ : ∃ g cap, u3 = .slice (some ⟨g, 0, none⟩) (m + 1) cap ∧ w.heap.size ≤ g ∧ g < wr.heap.size := by
            rcases hr0.2 with ⟨_, h1⟩ | ⟨g, cap, cur, h1, h2, h3, _⟩
            · omega
            · exact ⟨g, cap, by rw [h1, hlen], h2, (Array.getElem?_eq_some_iff.1 h3).1⟩
          obtain ⟨hg0, hg1⟩ := hgw
          subst hv
          have hr1 := hr0
          unfold OwnW at hr1
          rw [hlen] at hr1
          have hcl : wr.cell? ⟨g, m * 2 + 1, none⟩ = some (.int .i64 (16 * (b : Int))) := by
            rw [hr1.cellAt (m * 2 + 1) (by omega), rowsV_at (rowsP P k) m 1 (by omega) (by omega)]
            simp [hLc, ← hm, rowV]
          have hfz : wr.frozen? ⟨g, m * 2 + 1, none⟩ = false := hr1.frozenAt _
          have hmb : (m : Int) ≤ 1048576 := by omega
          have hm0 : (0 : Int) ≤ (m : Int) := by omega
          have HR1 := hid hr1
          by_cases hb : b = k
          · rw [hb] at hcl hLc
            have HN := hid (rowsP_more hp hLc)
            have HLc := hid hLc
            have HM := hid hm
            clear hp hL hLc hr0 hr1 hlen hm hb
            have hst := (HR1.out.stored (m * 2 + 1) (.int .i64 (16 * ((k : Int) + 1)))).1
            rw [HLc.out, ← HM.out, show (16 * ((k : Int) + 1)) = 16 * ((k + 1 : Nat) : Int) from rfl, rowsV_snoc_set, ← HN.out] at hst
            have hle : (rowsP P (k + 1)).length = L.length + 1 := by rw [HN.out]; simp
            have HO2 := hid (show OwnW (wr.setCell ⟨g, m * 2 + 1, none⟩ (.int .i64 (16 * ((k : Int) + 1)))) w.heap.size (.slice (some ⟨g, 0, none⟩) (m + 1) cap) (rowsP P (k + 1)) by unfold OwnW; rw [hle, ← HM.out]; exact hst)
            clear hst hle
            go_wp2_with (go_at_call 24; (with_reducible refine Calls.mono (painted_ p q n k P _ (HH.out.ext HX.out) hlt) ?_); rw [HP.out]; rintro e w1 ⟨rfl, rfl⟩)
            go_roundw
            case rel => exact ⟨k + 1, by omega, by first | rfl | go_num, HO2, hid (Ext.setCell HX.out hg0 _)⟩
            case measure => first | (simp [intOf]; done) | (simp [intOf]; omega)
          · have HN := hid (rowsP_new hp hLc hb)
            have hbe : ((b : Int) == (k : Int)) = false := beq_eq_false_iff_ne.2 (by omega)
            have hbf : (16 * (b : Int) == 16 * (k : Int)) = false := beq_eq_false_iff_ne.2 (by omega)
            have HLEN := hid hlen
            clear hp hLc hr0 hr1 hm hb hlen
            have hr0 := hown.out
            go_wp2_with (first | (go_at_call 24; (with_reducible refine Calls.mono (painted_ p q n k P _ (HH.out.ext HX.out) hlt) ?_); rw [HP.out]; rintro e w1 ⟨rfl, rfl⟩) | (at_builtin; refine wpList_append_own _ rfl _ _ 37 rfl w.heap.size 42 i0 _ 2 16 Try.underlying37 hi0 hz0 hz1 hz2 rfl (by decide) _ _ _ rfl (World.ownsRow.alloc hr0 _) _ 1 1 [.int .i64 (16 * (k : Int)), .int .i64 (16 * ((k : Int) + 1))] rfl rfl ?c1 ?c2 ?c3 ?c4 ?c5 ?_))
            case c1 =>
              intro i u hi
              rw [Addr.add_lit]
              have hi2 : i = 0 ∨ i = 1 := by
                have h := (List.getElem?_eq_some_iff.1 hi).1
                simp at h
                omega
              rcases hi2 with rfl | rfl <;> (simp at hi; subst hi; simp [go_sem])
            case c2 =>
              intro u hu
              simp at hu
              rcases hu with rfl | rfl <;> rfl
            case c3 => unfold maxLen; have := rowsP_len P k; omega
            case c4 => have := rowsP_len P k; omega
            case c5 => have := HX.out.size; simp; omega
            intro v1 w1 hown1 hg1 _
            have hx1 : Ext w w1 := Ext.owned (Ext.trans HX.out (Ext.alloc (Ext.refl wr) _)) (World.ownsRow.alloc hr0 _) hg1
            have hs1 : Sh w1 p q n P := HH.out.ext hx1
            have hown2 : OwnW w1 w.heap.size v1 (rowsP P (k + 1)) := by
              rw [HN.out]
              unfold OwnW
              rw [rowsV_append, List.length_append]
              first | exact hown1 | (rw [HLEN.out]; exact hown1) | simpa [HLEN.out] using hown1
            have HQ := hid (And.intro hs1 (And.intro hown2 hx1))
            clear hown1 hg1 hx1 hs1 hown2 hr0
            go_wp2
            go_roundw
            case rel => exact ⟨k + 1, by omega, by first | rfl | go_num, hid HQ.out.2.1, hid HQ.out.2.2⟩
            case measure => first | (simp [intOf]; done) | (simp [intOf]; omega)
    · obtain rfl : k = n := by omega
      obtain ⟨A, ca, rfl, hrd, hbs⟩ := hown.out.rd
      have HRD := hid hrd
      clear hrd
      go_wp2
      go_ret
      exact ⟨A, ca, rfl, HRD.out, HX.out, hbs⟩


end Go.Proofs.Ytgjjimpialgojaa
