/- Layer 7: the document's memory, second part. -/
import Derived.Test.YtgpeabbbeidhpaaTagS
namespace Go.Proofs.Ytgpeabbbeidhpaa
set_option linter.unusedSimpArgs false
set_option linter.unusedVariables false
open Go.RowKit

theorem putB_next (B : Nat → Int) (a k : Nat) (l : List Int) (hk : k < l.length) : upd1 (putB B a (l.take k)) (a + k) l[k] = putB B a (l.take (k + 1)) := by
  funext y
  unfold upd1 putB
  rw [List.length_take, List.length_take, Nat.min_eq_left (by omega), Nat.min_eq_left (by omega)]
  by_cases e : y = a + k
  · subst e
    rw [if_pos rfl, if_pos (by omega), List.getD_eq_getElem?_getD, show a + k - a = k by omega, List.getElem?_take_of_lt (by omega), List.getElem?_eq_getElem hk]
    rfl
  · rw [if_neg e]
    by_cases c : a ≤ y ∧ y < a + k
    · rw [if_pos c, if_pos (by omega), List.getD_eq_getElem?_getD, List.getD_eq_getElem?_getD, List.getElem?_take_of_lt (by omega), List.getElem?_take_of_lt (by omega)]
    · rw [if_neg c, if_neg (by omega)]
theorem clrT_next (T : Nat → Bool) (a k : Nat) : upd1 (clrT T a k) ((a + k) / 16) false = clrT T a (k + 1) := by
  funext t
  unfold upd1 clrT
  by_cases e : t = (a + k) / 16
  · rw [if_pos e]
    have h : decide (16 * t < a + (k + 1) ∧ a < 16 * t + 16 ∧ 0 < k + 1) = true := decide_eq_true (by omega)
    rw [h]
    simp
  · rw [if_neg e]
    congr 2
    exact decide_eq_decide.2 (by omega)
set_option maxRecDepth 100000 in
set_option maxHeartbeats 4000000 in
theorem rmstore_no (r gb gt gp n nb nt : Nat) (B : Nat → Int) (T D : Nat → Bool) (w : World) (h : Rm w r gb gt gp n nb nt B T D) (x : Int) (A : Option Addr) (m ca : Nat) (hc : ¬ spanP n x m) : Calls Try.prog 23 #[.pointer (some ⟨r, 0, none⟩), .int .i64 x, .slice A m ca] w fun e w' => e = .returned (.bool false) ∧ w = w' := by
  have HH := hid h
  have c0 := h.c0
  have hlr := h.lr
  have hlb := h.lb
  have hlt := h.lt
  have hlp := h.lp
  have hbd := h.bd
  have heb : nb ≤ 16777216 := by have := h.eb; omega
  have het : nt ≤ 1048576 := by have := h.et; omega
  obtain ⟨e1, e2, e3, e4, e5, e6⟩ := h.ne
  have hebq := HH.out.eb
  by_cases h0 : x < 0
  · clear hc h hebq
    go_enter Try.func23, Try.ntmps23
    go_wp2
    go_ret
    exact ⟨rfl, rfl⟩
  · by_cases h2 : (nb : Int) < x
    · clear hc h hebq
      go_enter Try.func23, Try.ntmps23
      go_wp2
      go_ret
      exact ⟨rfl, rfl⟩
    · have h3 : (nb : Int) - x < (m : Int) := by
        by_cases h3 : (nb : Int) - x < (m : Int)
        · exact h3
        · exact absurd ⟨by omega, by omega, by omega, by omega⟩ hc
      clear hc h hebq
      go_enter Try.func23, Try.ntmps23
      go_wp2
      go_ret
      exact ⟨rfl, rfl⟩
set_option maxRecDepth 100000 in
set_option maxHeartbeats 4000000 in
theorem rmstore_yes (r gb gt gp n nb nt : Nat) (B : Nat → Int) (T D : Nat → Bool) (w : World) (h : Rm w r gb gt gp n nb nt B T D) (a : Nat) (A : Option Addr) (m ca : Nat) (l : List Int) (hm : l.length = m) (hr : RdB w A l) (hl : byteL l) (hfit : a + m ≤ 256 * n) (hA : 0 < m → ∀ b o, A = some ⟨b, o, none⟩ → ¬ Tri gb gt gp b) : Calls Try.prog 23 #[.pointer (some ⟨r, 0, none⟩), .int .i64 (a : Int), .slice A m ca] w fun e w' => e = .returned (.bool true) ∧ Hid (Rm w' r gb gt gp n nb nt (putB B a l) (clrT T a m) D) ∧ Hid (Only (Tri gb gt gp) w w') := by
  have HH := hid h
  have c0 := h.c0
  have hlr := h.lr
  have hlb := h.lb
  have hlt := h.lt
  have hlp := h.lp
  have hbd := h.bd
  have heb : nb ≤ 16777216 := by have := h.eb; omega
  have het : nt ≤ 1048576 := by have := h.et; omega
  obtain ⟨e1, e2, e3, e4, e5, e6⟩ := h.ne
  have h0 : (0 : Int) ≤ (a : Int) := by omega
  have h1 : (0 : Int) ≤ (m : Int) := by omega
  have h2 : (a : Int) ≤ (nb : Int) := by have := HH.out.eb; omega
  have h3 : (m : Int) ≤ (nb : Int) - (a : Int) := by have := HH.out.eb; omega
  have HFIT : Hid (a + m ≤ nb ∧ nt = 16 * n ∧ nb = 256 * n) := hid ⟨by have := HH.out.eb; omega, HH.out.et, HH.out.eb⟩
  have hmb : m ≤ 16777216 := by have := HFIT.out.1; omega
  have hab : a ≤ 16777216 := by have := HFIT.out.1; omega
  have HML := hid hm
  have HR := hid hr
  have HL := hid hl
  have HA := hid hA
  clear h hr hl hfit hA hm
  go_enter Try.func23, Try.ntmps23
  go_wp2
  clear c0 hlr hlb hlt hlp
  go_loopw [7] (fun i wr => ∃ k : Nat, k ≤ m ∧ i = .int .i64 k ∧ Hid (Rm wr r gb gt gp n nb nt (putB B a (l.take k)) (clrT T a k) (D)) ∧ Hid (Only (Tri gb gt gp) w wr)) (fun i _ => m - (intOf i).toNat)
  case atStart => exact ⟨0, by omega, rfl, hid (by rw [List.take_zero, putB_nil, clrT_zero]; exact HH.out), hid (Only.refl _ _)⟩
  case round =>
    obtain ⟨k, hk, rfl, HM, HO⟩ := hrel
    have hk0 : (0 : Int) ≤ (k : Int) := by omega
    by_cases hlt' : k < m
    · have hk1 : (k : Int) < (m : Int) := by omega
      have hak : (a : Int) + (k : Int) < (nb : Int) := by have := HFIT.out.1; omega
      have hak0 : (0 : Int) ≤ (a : Int) + (k : Int) := by omega
      have hkl : k < l.length := by rw [HML.out]; exact hlt'
      obtain ⟨x, hx⟩ : ∃ x, l[k] = x := ⟨_, rfl⟩
      have hxb : 0 ≤ x ∧ x ≤ 255 := by rw [← hx]; exact HL.out _ (List.getElem_mem hkl)
      obtain ⟨bb, ob, rfl, hbb', hcc⟩ := HR.out (by omega)
      have hnT := HA.out (by omega) bb ob rfl
      have hbb := Nat.lt_of_lt_of_le hbb' HO.out.size
      have hck := (HO.out.cells bb (ob + k) hbb' hnT).trans (hcc k hkl)
      rw [hx] at hck
      have HNX := hid (putB_next B a k l hkl)
      rw [hx] at HNX
      have hbg : ¬ bb = gb := fun e => hnT (.inl e)
      have c0 := HM.out.c0
      have hlr := HM.out.lr
      have hlb := HM.out.lb
      have hcb := (HM.out.by_ (a + k) (by have := HFIT.out.1; omega)).1
      have hfb := (HM.out.by_ (a + k) (by have := HFIT.out.1; omega)).2
      obtain ⟨y, hy⟩ : ∃ y, putB B a (l.take k) (a + k) = y := ⟨_, rfl⟩
      rw [hy] at hcb
      clear hy hx hkl hcc hnT hbb'
      go_upto_region 6 with (fail)
      refine wp_region_turn (q := gb) (.rd 0 (.rd 1 (.rd 2 (.rd 3 (.rd 4 (.rd 5 (.rd 6 (.rd 7 (.rd 8 (.rd 9 (.rd 10 (.rd 11 (.ac 12 .done))))))))))))) (by kernel_rfl) (by kernel_rfl) (fun _ _ d _ _ h => by cases d <;> exact h) (by simp only [Ord.map, nthOp, List.append]; rfl) ?_
      intro d0
      repeat (refine turn_read (by rfl) (fun K hK => ?_); go_big_quiet_op; refine hK _ ?_; clear hK K)
      refine turn_act (by rfl) (fun K hK => ?_)
      go_wp2
      refine ⟨_, Only.refl _ _, (by rw [← grow_setCell _ _ _ _ _ hlb]; exact Only.setCell (S := (· = gb)) (Only.refl _ _) (.inl rfl) _), ?_⟩
      refine turn_nil ?_
      clear c0 hlr hlb hcb hfb hck hbb
      go_upto_region 7 with (fail)
      refine wp_gen (fun W => Hid (Rm W r gb gt gp n nb nt (putB B a (l.take (k + 1))) (clrT T a k) (D)) ∧ Hid (Only (Tri gb gt gp) w W)) ⟨hid (by rw [← HNX.out]; exact (HM.out.setB (by have := HFIT.out.1; omega) hxb).ext (Ext.grow (Ext.refl _) d0)), hid ((Only.setCell HO.out (.inl (.inl rfl)) _).transExt (Ext.grow (Ext.refl _) d0))⟩ ?_
      clear HM HO HNX
      rintro W ⟨HM, HO⟩
      obtain ⟨t, ht⟩ : ∃ t, (a + k) / 16 = t := ⟨_, rfl⟩
      have HNT := hid (clrT_next T a k)
      rw [ht] at HNT
      have htn : t < nt := by have := HFIT.out; omega
      have htq : ((a : Int) + (k : Int)) / 16 = (t : Int) := by omega
      have c1 := HM.out.c1
      have hlr := HM.out.lr
      have hlt := HM.out.lt
      have hct := (HM.out.tg t htn).1
      have hft := (HM.out.tg t htn).2
      have ht0 : (0 : Int) ≤ (t : Int) := by omega
      have ht1 : (t : Int) < (nt : Int) := by omega
      obtain ⟨y, hy⟩ : ∃ y, clrT T a k t = y := ⟨_, rfl⟩
      rw [hy] at hct
      have HM2 := hid (HM.out.setT htn false)
      rw [HNT.out] at HM2
      have HO2 : Hid (Only (Tri gb gt gp) w (W.setCell ⟨gt, t, none⟩ (.bool false))) := hid (Only.setCell HO.out (.inl (.inr (.inl rfl))) _)
      clear hy HNT HM HO ht htn
      go_wp2
      go_roundw
      case rel => exact ⟨k + 1, by omega, by go_num, HM2, HO2⟩
      case measure => simp [intOf]; omega
    · obtain rfl : m = k := by omega
      have hk1 : ¬ (m : Int) < (m : Int) := by omega
      rw [List.take_of_length_le (by rw [HML.out]; omega)] at HM
      go_wp2
      go_ret
      exact ⟨rfl, HM, HO⟩

end Go.Proofs.Ytgpeabbbeidhpaa
