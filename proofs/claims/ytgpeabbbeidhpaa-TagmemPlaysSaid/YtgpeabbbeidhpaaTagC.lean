/- Layer 7: Store. -/
import Derived.Test.YtgpeabbbeidhpaaTagB
import Derived.Lib.SlBuf
namespace Go.Proofs.Ytgpeabbbeidhpaa
set_option linter.unusedSimpArgs false
set_option linter.unusedVariables false
open Go.RowKit

/-- Bytes with others laid over them. -/
def putB (B : Nat → Int) (a : Nat) (l : List Int) : Nat → Int := fun y => if a ≤ y ∧ y < a + l.length then l.getD (y - a) 0 else B y
/-- Tags, less those of granules that were written to. -/
def clrT (T : Nat → Bool) (a d : Nat) : Nat → Bool := fun t => T t && !(decide (16 * t < a + d ∧ a < 16 * t + 16 ∧ 0 < d))
theorem putB_nil (B : Nat → Int) (a : Nat) : putB B a [] = B := funext fun y => by unfold putB; rw [if_neg (by simp only [List.length_nil]; omega)]
theorem clrT_zero (T : Nat → Bool) (a : Nat) : clrT T a 0 = T := funext fun t => by simp [clrT]
theorem putB_two (B : Nat → Int) (a : Nat) (l m : List Int) : putB (putB B a l) (a + l.length) m = putB B a (l ++ m) := funext fun y => by
  unfold putB
  rw [List.length_append]
  by_cases h1 : a + l.length ≤ y ∧ y < a + l.length + m.length
  · rw [if_pos h1, if_pos (by omega)]
    rw [List.getD_eq_getElem?_getD, List.getD_eq_getElem?_getD, List.getElem?_append_right (by omega)]
    congr 2
    omega
  · rw [if_neg h1]
    by_cases h2 : a ≤ y ∧ y < a + l.length
    · rw [if_pos h2, if_pos (by omega), List.getD_eq_getElem?_getD, List.getD_eq_getElem?_getD, List.getElem?_append_left (by omega)]
    · rw [if_neg h2, if_neg (by omega)]
theorem putB_rg {B : Nat → Int} {a : Nat} {l : List Int} (h : ∀ y, 0 ≤ B y ∧ B y ≤ 255) (hl : byteL l) : ∀ y, 0 ≤ putB B a l y ∧ putB B a l y ≤ 255 := fun y => by
  unfold putB
  by_cases c : a ≤ y ∧ y < a + l.length
  · rw [if_pos c]
    have hlt : y - a < l.length := by omega
    rw [List.getD_eq_getElem?_getD, List.getElem?_eq_getElem hlt]
    exact hl _ (List.getElem_mem hlt)
  · rw [if_neg c]
    exact h y
theorem clrT_step (T : Nat → Bool) {a d c t0 : Nat} (hc : 0 < c) (ht : (a + d) / 16 = t0) (hfit : (a + d) % 16 + c ≤ 16) (hd : d = 0 ∨ (a + d) % 16 = 0) : upd1 (clrT T a d) t0 false = clrT T a (d + c) := funext fun t => by
  unfold upd1
  by_cases e : t = t0
  · subst e
    rw [if_pos rfl]
    unfold clrT
    rw [decide_eq_true (show 16 * t < a + (d + c) ∧ a < 16 * t + 16 ∧ 0 < d + c by omega)]
    simp
  · rw [if_neg e]
    unfold clrT
    congr 2
    rw [decide_eq_decide]
    omega
section
variable {w : World} {q g n : Nat} {B : Nat → Int} {T D : Nat → Bool}
theorem bvals_at (l : List Int) (j : Nat) (hj : j < l.length) : (bvals l)[j]? = some (.int .u8 (l.getD j 0)) := by
  simp [bvals, hj]
theorem Mm.lay (h : Mm w q g n B T D) {p x : Nat} (hp : p < n) (ls : List Int) (hl : byteL ls) (hx : x + ls.length ≤ 256) : Mm (w.setCells g (p * 273 + x) (bvals ls)) q g n (putB B (256 * p + x) ls) T D := by
  have hcs : ∀ j, j < (bvals ls).length → (w.cell? ⟨g, p * 273 + x + j, none⟩).isSome = true := fun j hj => by
    rw [bvals_length] at hj
    rw [Nat.add_assoc, h.by_ p (x + j) hp (by omega)]
    rfl
  have hc := fun b' y => cell_setCells g (bvals ls) (p * 273 + x) w b' y hcs
  rw [bvals_length] at hc
  refine ⟨h.ne, by rw [size_setCells]; exact h.ltq, by rw [size_setCells]; exact h.ltg, ?_, fun p' i' h1 h2 => ?_, fun p' i' h1 h2 => ?_, fun p' h1 => ?_, fun y => by rw [frozen_setCells]; exact h.fz y, h.bd, putB_rg h.rg hl, h.inv, h.tout, h.dout⟩
  · rw [hc, if_neg (fun e => h.ne e.1)]
    exact h.c0
  · rw [hc]
    unfold putB
    by_cases c : p * 273 + x ≤ p' * 273 + i' ∧ p' * 273 + i' < p * 273 + x + ls.length
    · have hpp : p' = p := by omega
      subst hpp
      rw [if_pos ⟨rfl, c.1, c.2⟩, if_pos (by omega), bvals_at _ _ (by omega)]
      congr 3
      omega
    · rw [if_neg (fun e => c ⟨e.2.1, e.2.2⟩), h.by_ p' i' h1 h2, if_neg (by omega)]
  · rw [hc, if_neg (by omega)]
    exact h.tg p' i' h1 h2
  · rw [hc, if_neg (by omega)]
    exact h.dt p' h1
end
theorem RdB.only {S : Nat → Prop} {w w' : World} {A : Option Addr} {l : List Int} (h : RdB w A l) (x : Only S w w') (hs : ∀ b o, A = some ⟨b, o, none⟩ → ¬ S b) : RdB w' A l := fun h0 => by
  obtain ⟨b, o, hA, hb, hc⟩ := h h0
  exact ⟨b, o, hA, Nat.lt_of_lt_of_le hb x.size, fun j hj => by rw [x.cells b _ hb (hs b o hA)]; exact hc j hj⟩
theorem goInt_nat (k : Nat) : goInt k = .int .i64 (k : Int) := rfl
set_option maxRecDepth 100000 in
set_option maxHeartbeats 4000000 in
theorem tstore_no (q g n : Nat) (B : Nat → Int) (T D : Nat → Bool) (w : World) (h : Mm w q g n B T D) (x : Int) (A : Option Addr) (m ca : Nat) (hc : ¬ spanP n x m) : Calls Try.prog 22 #[.pointer (some ⟨q, 0, none⟩), .int .i64 x, .slice A m ca] w fun e w' => e = .returned (.bool false) ∧ w = w' := by
  have HH := hid h
  have HC := hid hc
  clear h hc
  go_enter Try.func22, Try.ntmps22
  go_wp2_with (go_at_call 41; refine (tspans_no q g n B T D _ HH.out x m HC.out).mono ?_; rintro e w1 ⟨rfl, rfl⟩)
  go_ret
  exact ⟨rfl, rfl⟩
set_option maxRecDepth 100000 in
set_option maxHeartbeats 4000000 in
theorem tstore_yes (q g n : Nat) (B : Nat → Int) (T D : Nat → Bool) (w : World) (h : Mm w q g n B T D) (a : Nat) (A : Option Addr) (ca : Nat) (l : List Int) (hr : RdB w A l) (hl : byteL l) (hca : l.length ≤ ca) (hfit : a + l.length ≤ 256 * n) (hA : 0 < l.length → ∀ b o, A = some ⟨b, o, none⟩ → ¬ b = g) : Calls Try.prog 22 #[.pointer (some ⟨q, 0, none⟩), .int .i64 (a : Int), .slice A l.length ca] w fun e w' => e = .returned (.bool true) ∧ Hid (Mm w' q g n (putB B a l) (clrT T a l.length) D) ∧ Hid (Only (· = g) w w') := by
  have HS : Hid (spanP n (a : Int) (l.length : Int)) := hid ⟨by omega, by omega, by omega, by omega⟩
  have HH := hid h
  have HR := hid hr
  have HL := hid hl
  have HA := hid hA
  have hbd := h.bd
  clear h hr hl hA
  go_enter Try.func22, Try.ntmps22
  go_wp2_with (go_at_call 41; refine (tspans_yes q g n B T D _ HH.out (a : Int) (l.length : Int) HS.out.1 HS.out.2.1 HS.out.2.2.1 HS.out.2.2.2).mono ?_; rintro e w1 ⟨rfl, rfl⟩)
  go_loopw [7] (fun i wr => ∃ d : Nat, d ≤ l.length ∧ i = .int .i64 d ∧ Hid (Mm wr q g n (putB B a (l.take d)) (clrT T a d) D) ∧ Hid (Only (· = g) w wr) ∧ Hid (d = 0 ∨ d = l.length ∨ (a + d) % 16 = 0)) (fun i _ => l.length - (intOf i).toNat)
  case atStart => exact ⟨0, Nat.zero_le _, rfl, hid (by rw [List.take_zero, putB_nil, clrT_zero]; exact HH.out), hid (Only.refl _ _), hid (.inl rfl)⟩
  case round =>
    obtain ⟨d, hd, rfl, HM, HO, HB⟩ := hrel
    have hd0 : (0 : Int) ≤ (d : Int) := by omega
    by_cases hlt : d < l.length
    · have hd1 : (d : Int) < (l.length : Int) := by omega
      obtain ⟨b, ob, rfl, hb, hc0⟩ := HR.out (by omega)
      have hbg := HA.out (by omega) b ob rfl
      obtain ⟨p, hp⟩ : ∃ p, (a + d) / 256 = p := ⟨_, rfl⟩
      obtain ⟨i, hi⟩ : ∃ i, (a + d) % 256 / 16 = i := ⟨_, rfl⟩
      obtain ⟨off, hoff⟩ : ∃ off, (a + d) % 16 = off := ⟨_, rfl⟩
      have hpn : p < n := by omega
      have hi16 : i < 16 := by omega
      have ho16 : off < 16 := by omega
      have HP : Hid (((a : Int) + (d : Int)) / 256 = (p : Int)) := hid (by omega)
      have HI : Hid (((a : Int) + (d : Int)) % 256 / 16 = (i : Int)) := hid (by omega)
      have HE : Hid (a + d = 256 * p + 16 * i + off) := hid (by omega)
      have HOF : Hid (((a : Int) + (d : Int)) % 16 = (off : Int)) := hid (by omega)
      clear hp hi hoff
      have hi0 : (0 : Int) ≤ (i : Int) := by omega
      have hi1 : (i : Int) < 16 := by omega
      go_upto_region 6 with (go_at_call 37; refine (tplace_ q g n _ _ _ _ HM.out ((a : Int) + (d : Int)) p i (by omega) HP.out HI.out hpn).mono ?_; rintro e w1 ⟨rfl, rfl⟩)
      have htg := HM.out.tg p i hpn hi16
      have hfz := HM.out.fz (p * 273 + 256 + i)
      have hlg := HM.out.ltg
      have HM1 := hid (HM.out.untag hpn hi16)
      have HO1 : Hid (Only (· = g) w (wr.setCell ⟨g, p * 273 + 256 + i, none⟩ (.bool false))) := hid (Only.setCell (S := (· = g)) HO.out (.inl rfl) _)
      have hb1 : b < wr.heap.size := Nat.lt_of_lt_of_le hb HO.out.size
      go_upto_region 7 with (fail)
      clear HM HO htg hfz hlg
      generalize hW : wr.setCell ⟨g, p * 273 + 256 + i, none⟩ (.bool false) = W at HM1 HO1 ⊢
      have hbW : b < W.heap.size := by rw [← hW, World.size_setCell]; exact hb1
      have HBW : Hid (∀ x, W.cell? ⟨b, x, none⟩ = w.cell? ⟨b, x, none⟩) := hid (fun x => HO1.out.cells b x hb hbg)
      clear hW hb1
      have hof := HOF.out
      have ho0 : (0 : Int) ≤ (off : Int) := by omega
      have ho1 : (off : Int) ≤ 16 := by omega
      have hdl : (d : Int) ≤ (l.length : Int) := by omega
      have hdc : ¬ (ca : Int) = (d : Int) := by omega
      have hdcn : ¬ ca = d := by omega
      have hocn : ¬ 16 = off := by omega
      have hoci : ¬ (16 : Int) = (off : Int) := by omega
      refine wp_region_turn (q := g) (.rd 0 (.rd 1 (.rd 2 (.rd 3 (.rd 4 (.rd 5 (.rd 6 (.rd 7 (.rd 8 (.rd 9 (.rd 10 (.rd 11 (.rd 12 (.rd 13 (.ac 14 (.rd 15 (.rd 16 .done))))))))))))))))) (by kernel_rfl) (by kernel_rfl) (fun _ _ d _ _ h => by cases d <;> exact h) (by simp only [Ord.map, nthOp, List.append]; rfl) ?_
      intro d0
      repeat (refine turn_read (by rfl) (fun K hK => ?_); go_big_quiet_op; refine hK _ ?_; clear hK K)
      have hx0 : Ext W (Go.Proofs.Ytgpeabbbeidhpaa.grow W d0) := Ext.grow (Ext.refl _) d0
      have HM2 := hid (HM1.out.ext hx0)
      have HO2 := hid (HO1.out.transExt hx0)
      have hbW2 := Nat.lt_of_lt_of_le hbW hx0.size
      obtain ⟨cnt, hcnt⟩ : ∃ c, Nat.min (l.length - d) (16 - off) = c := ⟨_, rfl⟩
      have hcnt0 : 0 < cnt := by rw [← hcnt]; exact Nat.lt_min.2 ⟨by omega, by omega⟩
      have hcnt1 : cnt ≤ l.length - d := by rw [← hcnt]; exact Nat.min_le_left _ _
      have hcnt2 : cnt ≤ 16 - off := by rw [← hcnt]; exact Nat.min_le_right _ _
      obtain ⟨ls, hls⟩ : ∃ x, (l.drop d).take cnt = x := ⟨_, rfl⟩
      have hlsl : ls.length = cnt := by rw [← hls, List.length_take, List.length_drop]; omega
      have hlsat : ∀ j, j < cnt → ls.getD j 0 = l.getD (d + j) 0 := fun j hj => by
        rw [← hls, List.getD_eq_getElem?_getD, List.getD_eq_getElem?_getD, List.getElem?_take, if_pos hj, List.getElem?_drop]
      have hlsb : byteL ls := fun y hy => by rw [← hls] at hy; exact HL.out y (List.mem_of_mem_drop (List.mem_of_mem_take hy))
      have hxo : 16 * i + off + ls.length ≤ 256 := by omega
      have HM3 := hid (HM2.out.lay hpn ls hlsb hxo)
      have HM4 : Hid (Mm ((Go.Proofs.Ytgpeabbbeidhpaa.grow W d0).setCells g (p * 273 + i * 16 + off) (bvals ls)) q g n (putB B a (l.take (d + cnt))) (clrT T a (d + cnt)) D) := hid (by
        have h3 := HM3.out
        have ht := clrT_step T (a := a) (d := d) (c := cnt) (t0 := 16 * p + i) hcnt0 (by have := HE.out; omega) (by have := HE.out; omega) (by rcases HB.out with c | c | c; exact .inl c; omega; exact .inr c)
        have hb2 : putB (putB B a (l.take d)) (256 * p + (16 * i + off)) ls = putB B a (l.take (d + cnt)) := by
          have e1 : (l.take d).length = d := by rw [List.length_take]; omega
          have e2 := putB_two B a (l.take d) ls
          rw [e1, HE.out] at e2
          rw [← Nat.add_assoc, e2, ← hls, List.take_add]
        rw [hb2, ht] at h3
        rwa [show p * 273 + i * 16 + off = p * 273 + (16 * i + off) by omega])
      have hcopy : (Builtin.copy_ #[29, 29] 3 #[.slice (some ⟨g, p * 273 + i * 16 + off, none⟩) (16 - off) (16 - off), .slice (some ⟨b, ob + d, none⟩) (l.length - d) (ca - d)]).run Try.prog (Go.Proofs.Ytgpeabbbeidhpaa.grow W d0) = .ok (goInt cnt) ((Go.Proofs.Ytgpeabbbeidhpaa.grow W d0).setCells g (p * 273 + i * 16 + off) (bvals ls)) := by
        have := run_copy_cells (P := Try.prog) (Go.Proofs.Ytgpeabbbeidhpaa.grow W d0) 29 29 3 5 g (p * 273 + i * 16 + off) (16 - off) (16 - off) ⟨b, ob + d, none⟩ (l.length - d) (ca - d) (bvals ls) Try.underlying29 (by kernel_rfl) (by rw [bvals_length, hlsl, hcnt]) (fun j v hj => by
          have hjl : j < cnt := by have := (List.getElem?_eq_some_iff.1 hj).1; rw [bvals_length, hlsl] at this; exact this
          rw [bvals_at _ _ (by omega), hlsat j hjl] at hj
          rw [Addr.add_lit, hx0.cells b _ hbW, ← Option.some.inj hj]
          have h1 := hc0 (d + j) (by omega)
          rw [Nat.add_assoc, HBW.out _, h1, List.getD_eq_getElem?_getD, List.getElem?_eq_getElem (by omega)]
          rfl) (fun j hj => by
          rw [bvals_length] at hj
          rw [show p * 273 + i * 16 + off + j = p * 273 + (16 * i + off + j) by omega, HM2.out.by_ p (16 * i + off + j) hpn (by omega)]
          rfl) (fun j hj => HM2.out.fz _) (bvals_one ls)
        rwa [bvals_length, hlsl] at this
      have HO4 : Hid (Only (· = g) (Go.Proofs.Ytgpeabbbeidhpaa.grow W d0) ((Go.Proofs.Ytgpeabbbeidhpaa.grow W d0).setCells g (p * 273 + i * 16 + off) (bvals ls))) := hid (Only.setCells (S := (· = g)) (.inl rfl) _ _ (Only.refl _ _))
      refine turn_act (by rfl) (fun K hK => ?_)
      refine Lib.wp_copy_run _ _ _ 29 29 rfl _ _ rfl rfl hcopy ?_
      refine hK _ _ ⟨_, Only.refl _ _, HO4.out, ?_⟩
      clear hK K
      simp only [Act.put, List.setIfInBounds_toArray, List.set_cons_zero, List.set_cons_succ, goInt_nat]
      have HO5 := hid (HO2.out.trans' HO4.out)
      have HB5 : Hid (d + cnt = 0 ∨ d + cnt = l.length ∨ (a + (d + cnt)) % 16 = 0) := hid (by
        rcases (show cnt = l.length - d ∨ cnt = 16 - off by rw [← hcnt]; rcases Nat.le_total (l.length - d) (16 - off) with c | c; exact .inl (Nat.min_eq_left c); exact .inr (Nat.min_eq_right c)) with c | c
        · exact .inr (.inl (by omega))
        · refine .inr (.inr ?_)
          have := HE.out
          omega)
      have hcb : (cnt : Int) ≤ 16 := by omega
      have hdb : (d : Int) ≤ 16777216 := by omega
      clear HM1 HM2 HM3 HO1 HO2 HO4 hcopy hx0 hcnt hls hlsl hlsat hlsb hxo
      generalize (Go.Proofs.Ytgpeabbbeidhpaa.grow W d0).setCells g (p * 273 + i * 16 + off) (bvals ls) = W9 at HM4 HO5 ⊢
      repeat (refine turn_read (by rfl) (fun K hK => ?_); go_big_quiet_op; refine hK _ ?_; clear hK K)
      refine turn_nil ?_
      go_wp2
      go_roundw
      case rel => exact ⟨d + cnt, by omega, by go_num, HM4, HO5, HB5⟩
      case measure => simp [intOf]; omega
    · obtain rfl : d = l.length := by omega
      have hd1 : ¬ (l.length : Int) < (l.length : Int) := by omega
      go_wp2
      go_ret
      exact ⟨rfl, by have := HM.out; rw [List.take_length] at this; exact hid this, HO⟩

end Go.Proofs.Ytgpeabbbeidhpaa
