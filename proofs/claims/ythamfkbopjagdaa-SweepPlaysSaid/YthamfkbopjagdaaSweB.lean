/- Layer 10: a page. -/
import Derived.Test.YthamfkbopjagdaaSweA
namespace Go.Proofs.Ythamfkbopjagdaa
set_option linter.unusedSimpArgs false
set_option linter.unusedVariables false
open Go.RowKit

/-- All that a sweep is done on: the memory, the map, the sweeper. -/
structure SWB (w W : World) (q g s p pq n mm : Nat) (B : Nat → Int) (T D P : Nat → Bool) (runs : Bool) (A : Option Addr) (ca : Nat) (L : List Nat) (gone : Nat) : Prop where
  h1 : HM w W q g n B T D
  h2 : Sh W p pq mm P
  h3 : Sw W s q p runs A ca L gone
  ap : ¬ s = q ∧ ¬ s = g ∧ ¬ s = p ∧ ¬ s = pq ∧ ¬ q = p ∧ ¬ q = pq ∧ ¬ g = p ∧ ¬ g = pq
  lo : w.heap.size ≤ s ∧ w.heap.size ≤ p ∧ w.heap.size ≤ pq
  la : ∀ b o, A = some ⟨b, o, none⟩ → ¬ b = g ∧ ¬ b = pq
  lb : ∀ x ∈ L, x < n
section
variable {w W W1 : World} {q g s p pq n mm : Nat} {B B' : Nat → Int} {T D P T' D' P' : Nat → Bool} {runs runs' : Bool} {A A' : Option Addr} {ca ca' : Nat} {L L' : List Nat} {gone gone' : Nat}
theorem SWB.ext (h : SWB w W q g s p pq n mm B T D P runs A ca L gone) (x : Ext W W1) : SWB w W1 q g s p pq n mm B T D P runs A ca L gone := ⟨h.h1.ext x, h.h2.ext x, h.h3.ext x, h.ap, h.lo, h.la, h.lb⟩
/-- The memory turns. -/
theorem SWB.mem (h : SWB w W q g s p pq n mm B T D P runs A ca L gone) (m : HM w W1 q g n B' T' D') (x : Only (· = g) W W1) : SWB w W1 q g s p pq n mm B' T' D' P runs A ca L gone := by
  obtain ⟨a1, a2, a3, a4, a5, a6, a7, a8⟩ := h.ap
  exact ⟨m, h.h2.only x (fun e => a7 e.symm) (fun e => a8 e.symm), h.h3.only x a2 (fun b o e => (h.la b o e).1), h.ap, h.lo, h.la, h.lb⟩
/-- The map turns. -/
theorem SWB.map (h : SWB w W q g s p pq n mm B T D P runs A ca L gone) (m : Sh W1 p pq mm P') (x : Only (· = pq) W W1) : SWB w W1 q g s p pq n mm B T D P' runs A ca L gone := by
  obtain ⟨a1, a2, a3, a4, a5, a6, a7, a8⟩ := h.ap
  exact ⟨h.h1.only x a6 a8 (by rintro i rfl; exact h.lo.2.2), m, h.h3.only x a4 (fun b o e => (h.la b o e).2), h.ap, h.lo, h.la, h.lb⟩
/-- The sweeper turns. -/
theorem SWB.own (h : SWB w W q g s p pq n mm B T D P runs A ca L gone) (m : Sw W1 s q p runs' A' ca' L' gone') (x : Only (· = s) W W1) (hl : ∀ b o, A' = some ⟨b, o, none⟩ → ¬ b = g ∧ ¬ b = pq) (hb : ∀ x ∈ L', x < n) : SWB w W1 q g s p pq n mm B T D P runs' A' ca' L' gone' := by
  obtain ⟨a1, a2, a3, a4, a5, a6, a7, a8⟩ := h.ap
  exact ⟨h.h1.only x (fun e => a1 e.symm) (fun e => a2 e.symm) (by rintro i rfl; exact h.lo.1), h.h2.only x (fun e => a3 e.symm) (fun e => a4 e.symm), m, h.ap, h.lo, hl, hb⟩
end
/-- What a sweep may turn. -/
def Gs (g s i : Nat) : Prop := i = g ∨ i = s
theorem getL_base_le {B : Nat → Int} {a : Nat} {t : Bool} (h : ∀ y, 0 ≤ B y ∧ B y ≤ 255) : (getL (bytesAt B a 16) t).base ≤ 9223372036854775807 := by
  unfold getL bareC num4At
  have hd : ∀ i, 0 ≤ (bytesAt B a 16).getD i 0 ∧ (bytesAt B a 16).getD i 0 ≤ 255 := fun i => by
    rw [List.getD_eq_getElem?_getD]
    by_cases hi : i < (bytesAt B a 16).length
    · rw [List.getElem?_eq_getElem hi]
      exact bytesAt_byteL h a 16 _ (List.getElem_mem hi)
    · rw [List.getElem?_eq_none (by omega)]
      exact ⟨Int.le_refl _, by decide⟩
  have := num4_bd (hd 4) (hd 5) (hd 6) (hd 7)
  exact Int.le_trans this.2 (by decide)
set_option maxRecDepth 100000 in
set_option maxHeartbeats 4000000 in
theorem swpage_ (w W : World) (q g s p pq n mm : Nat) (B : Nat → Int) (T D P : Nat → Bool) (runs : Bool) (A : Option Addr) (ca : Nat) (L : List Nat) (gone : Nat) (h : SWB w W q g s p pq n mm B T D P runs A ca L gone) (pg : Nat) (hpg : pg < n) (hgone : gone ≤ 4611686018427387904) : Calls Try.prog 57 #[.pointer (some ⟨s, 0, none⟩), .int .i64 (pg : Int)] W fun e W' => e = .returned (.tuple #[]) ∧ Hid (SWB w W' q g s p pq n mm B (swpR mm P B T (16 * pg) (16 * pg + 16)) (cleanD n (pg : Int) (swpR mm P B T (16 * pg) (16 * pg + 16)) D) P runs A ca L (gone + cntR mm P B T (16 * pg) 16)) ∧ Hid (Only (Gs g s) W W') := by
  obtain ⟨W0, rfl⟩ : ∃ x, x = W := ⟨_, rfl⟩
  have HS := hid h
  have HGB := hid hgone
  have hp0 : (0 : Int) ≤ (pg : Int) := by omega
  have hpb : (pg : Int) ≤ 65536 := by have := h.h1.1.bd; omega
  clear h hgone
  go_enter Try.func57, Try.ntmps57
  go_wp2
  go_loopw [8] (fun i wr => ∃ k : Nat, k ≤ 16 ∧ i = .int .i64 k ∧ Hid (SWB w wr q g s p pq n mm B (swpR mm P B T (16 * pg) (16 * pg + k)) D P runs A ca L (gone + cntR mm P B T (16 * pg) k)) ∧ Hid (Only (Gs g s) W0 wr)) (fun i _ => 16 - (intOf i).toNat)
  case atStart => exact ⟨0, by omega, rfl, hid (by rw [Nat.add_zero, swpR_zero, cntR_zero]; exact HS.out), hid (Only.refl _ _)⟩
  case round =>
    clear HS
    obtain ⟨k, hk, rfl, HS, HO⟩ := hrel
    by_cases hk16 : k < 16
    · skip
      have hk0 : (0 : Int) ≤ (k : Int) := by omega
      have hk1 : (k : Int) < 16 := by omega
      have hkn : 16 * pg + k < 16 * n := by omega
      have hXE : Hid (((pg : Int) * 256 + (k : Int) * 16) = 16 * ((16 * pg + k : Nat) : Int)) := hid (by omega)
      obtain ⟨c, hcc⟩ : ∃ c, getL (bytesAt B (16 * (16 * pg + k)) 16) (swpR mm P B T (16 * pg) (16 * pg + k) (16 * pg + k)) = c := ⟨_, rfl⟩
      have HCC := hid hcc
      have HAT : Hid (hitsP mm P c.tag c.base c.top = hitAt mm P B T (16 * pg + k)) := hid (by
        rw [← hcc]
        exact hitAt_congr (mm := mm) (P := P) (B := B) (swpR_at mm P B T (16 * pg) k))
      have hcb : c.base ≤ 9223372036854775807 := by rw [← hcc]; exact getL_base_le HS.out.h1.1.rg
      clear hcc
      have c0 := HS.out.h3.c0
      have hlt := HS.out.h3.lt
      go_upto_region 5 with (go_at_call 42; refine (fLc w _ q g n B _ D HS.out.h1 ((pg : Int) * 256 + (k : Int) * 16) (16 * pg + k) hkn hXE.out c HCC.out).mono ?_; rintro e W1 ⟨rfl, HM1, HX1⟩)
      clear c0 hlt
      refine wp_gen (fun W => Hid (SWB w W q g s p pq n mm B (swpR mm P B T (16 * pg) (16 * pg + k)) D P runs A ca L (gone + cntR mm P B T (16 * pg) k)) ∧ Hid (CapB W W1.heap.size [.bool c.tag, .int .i64 c.base, .int .i64 c.top, .int .i64 c.at_, .int .i64 c.perms, .int .i64 c.type]) ∧ Hid (Only (Gs g s) W0 W)) ⟨hid ((HS.out.ext HX1.out).ext (by repeat (first | (with_reducible exact Ext.refl _) | (with_reducible refine Ext.undrew ?_) | (with_reducible refine Ext.grow ?_ _) | (with_reducible refine Ext.drew ?_) | (with_reducible refine Ext.drewN ?_ _) | (with_reducible refine Ext.alloc ?_ _) | (with_reducible assumption) | ((with_reducible refine Ext.setCell ?_ ?_ _); rotate_left; (first | exact Nat.le_refl _ | ((try dsimp only); (try simp only [World.size_alloc, grow_size, World.size_setCell]); omega)))))), hid (CapB.new W1 _ _), hid ((HO.out.transExt HX1.out).transExt (by repeat (first | (with_reducible exact Ext.refl _) | (with_reducible refine Ext.undrew ?_) | (with_reducible refine Ext.grow ?_ _) | (with_reducible refine Ext.drew ?_) | (with_reducible refine Ext.drewN ?_ _) | (with_reducible refine Ext.alloc ?_ _) | (with_reducible assumption) | ((with_reducible refine Ext.setCell ?_ ?_ _); rotate_left; (first | exact Nat.le_refl _ | ((try dsimp only); (try simp only [World.size_alloc, grow_size, World.size_setCell]); omega))))))⟩ ?_
      clear HS HO HM1 HX1
      rintro W2 ⟨HS2, HC2, HO2⟩
      generalize W1.heap.size = xb at HC2 ⊢
      have c0 := HS2.out.h3.c0
      have c1 := HS2.out.h3.c1
      have hlt := HS2.out.h3.lt
      have d0 : World.cell? W2 ⟨xb, 0, none⟩ = some (.bool c.tag) := HC2.out.2 0 _ rfl
      have d1 : World.cell? W2 ⟨xb, 1, none⟩ = some (.int .i64 c.base) := HC2.out.2 1 _ rfl
      have d2 : World.cell? W2 ⟨xb, 2, none⟩ = some (.int .i64 c.top) := HC2.out.2 2 _ rfl
      have d3 : World.cell? W2 ⟨xb, 3, none⟩ = some (.int .i64 c.at_) := HC2.out.2 3 _ rfl
      have d4 : World.cell? W2 ⟨xb, 4, none⟩ = some (.int .i64 c.perms) := HC2.out.2 4 _ rfl
      have d5 : World.cell? W2 ⟨xb, 5, none⟩ = some (.int .i64 c.type) := HC2.out.2 5 _ rfl
      have dl := HC2.out.1
      obtain ⟨hv, hhv⟩ : ∃ b, hitsP mm P c.tag c.base c.top = b := ⟨_, rfl⟩
      have HHV := hid hhv
      have HHA : Hid (hitAt mm P B T (16 * pg + k) = hv) := hid (HAT.out.symm.trans hhv)
      clear hhv HAT
      cases hv with
      | false =>
        refine wp_region_step (.rd 0 (.rd 1 (.rd 2 (.rd 3 (.rd 4 (.rd 5 (.rd 6 (.ac 7 (.rd 8 .done))))))))) (by kernel_rfl) (by kernel_rfl) (fun _ _ d _ _ h => by cases d <;> exact h) (by simp only [Ord.map, nthOp, List.append]; rfl) ?_
        intro d0
        repeat (refine step_read (by rfl) (fun K hK => ?_); go_big_quiet_op; refine hK _ ?_; clear hK K)
        refine step_act (by rfl) (fun K hK => ?_)
        go_wp2_with (go_at_call 43; refine (hits_ p pq mm P c.tag c.base c.top c.at_ c.perms c.type _ (HS2.out.h2.ext (by repeat (first | (with_reducible exact Ext.refl _) | (with_reducible refine Ext.undrew ?_) | (with_reducible refine Ext.grow ?_ _) | (with_reducible refine Ext.drew ?_) | (with_reducible refine Ext.drewN ?_ _) | (with_reducible refine Ext.alloc ?_ _) | (with_reducible assumption) | ((with_reducible refine Ext.setCell ?_ ?_ _); rotate_left; (first | exact Nat.le_refl _ | ((try dsimp only); (try simp only [World.size_alloc, grow_size, World.size_setCell]); omega)))))) hcb).mono ?_; rw [HHV.out]; rintro e W3 ⟨rfl, hx3⟩)
        refine ⟨_, Ext.refl _, hx3, ?_⟩
        repeat (refine step_read (by rfl) (fun K hK => ?_); go_big_quiet_op; refine hK _ ?_; clear hK K)
        refine step_nil ?_
        have hx23 := (Ext.grow (Ext.refl W2) d0).trans hx3
        have HS3 := hid (HS2.out.ext hx23)
        have HO3 := hid (HO2.out.transExt hx23)
        clear HS2 HO2 HC2 hx3 hx23 c0 c1 hlt d1 d2 d3 d4 d5 dl
        go_wp2
        go_roundw
        case rel => exact ⟨k + 1, by omega, by go_num, hid (by rw [← swpR_no mm P B T (16 * pg) k HHA.out, cntR_no mm P B T (16 * pg) k HHA.out]; exact HS3.out), HO3⟩
        case measure => simp [intOf]; omega
      | true =>
        refine wp_region_step (.rd 0 (.rd 1 (.rd 2 (.rd 3 (.rd 4 (.rd 5 (.rd 6 (.ac 7 (.rd 8 .done))))))))) (by kernel_rfl) (by kernel_rfl) (fun _ _ d _ _ h => by cases d <;> exact h) (by simp only [Ord.map, nthOp, List.append]; rfl) ?_
        intro d0
        repeat (refine step_read (by rfl) (fun K hK => ?_); go_big_quiet_op; refine hK _ ?_; clear hK K)
        refine step_act (by rfl) (fun K hK => ?_)
        go_wp2_with (go_at_call 43; refine (hits_ p pq mm P c.tag c.base c.top c.at_ c.perms c.type _ (HS2.out.h2.ext (by repeat (first | (with_reducible exact Ext.refl _) | (with_reducible refine Ext.undrew ?_) | (with_reducible refine Ext.grow ?_ _) | (with_reducible refine Ext.drew ?_) | (with_reducible refine Ext.drewN ?_ _) | (with_reducible refine Ext.alloc ?_ _) | (with_reducible assumption) | ((with_reducible refine Ext.setCell ?_ ?_ _); rotate_left; (first | exact Nat.le_refl _ | ((try dsimp only); (try simp only [World.size_alloc, grow_size, World.size_setCell]); omega)))))) hcb).mono ?_; rw [HHV.out]; rintro e W3 ⟨rfl, hx3⟩)
        refine ⟨_, Ext.refl _, hx3, ?_⟩
        repeat (refine step_read (by rfl) (fun K hK => ?_); go_big_quiet_op; refine hK _ ?_; clear hK K)
        refine step_nil ?_
        have hx23 := (Ext.grow (Ext.refl W2) d0).trans hx3
        have HS3 := hid (HS2.out.ext hx23)
        have HO3 := hid (HO2.out.transExt hx23)
        clear HS2 HO2 HC2 hx3 hx23 c0 c1 hlt d1 d2 d3 d4 d5 dl
        have c0 := HS3.out.h3.c0
        have hlt := HS3.out.h3.lt
        go_upto_region 7 with (go_at_call 71; refine (fStrip w _ q g n B _ D HS3.out.h1 ((pg : Int) * 256 + (k : Int) * 16)).mono ?_; rintro e W4 ⟨rfl, HM4, HO4⟩)
        clear c0 hlt
        have HST : Hid (stripT n ((pg : Int) * 256 + (k : Int) * 16) (swpR mm P B T (16 * pg) (16 * pg + k)) = swpR mm P B T (16 * pg) (16 * pg + (k + 1))) := hid (by
          rw [hXE.out]
          unfold stripT
          have ht : tagAt n (swpR mm P B T (16 * pg) (16 * pg + k)) (16 * ((16 * pg + k : Nat) : Int)) = true := by
            unfold tagAt
            rw [decide_eq_true (show placeP n (16 * ((16 * pg + k : Nat) : Int)) from ⟨by omega, by omega, by omega⟩), show (16 * ((16 * pg + k : Nat) : Int)).toNat / 16 = 16 * pg + k by omega, swpR_at]
            rw [hitAt_tag HHA.out]
            rfl
          rw [if_pos ht, show (16 * ((16 * pg + k : Nat) : Int)).toNat / 16 = 16 * pg + k by omega]
          exact swpR_yes mm P B T (16 * pg) k HHA.out)
        rw [HST.out] at HM4
        have HS4 := hid (HS3.out.mem HM4.out HO4.out)
        have HO5 : Hid (Only (Gs g s) W0 W4) := hid (HO3.out.trans HO4.out (fun i e => .inl (.inl e)))
        clear HS3 HO3 HM4 HO4 HST
        have c4 := HS4.out.h3.c4
        have hlt := HS4.out.h3.lt
        have hfz := HS4.out.h3.fz 4
        have hgb : gone + cntR mm P B T (16 * pg) k ≤ 4611686018427387920 := by have := cntR_le mm P B T (16 * pg) k; have := HGB.out; omega
        obtain ⟨gk, hgk⟩ : ∃ x, gone + cntR mm P B T (16 * pg) k = x := ⟨_, rfl⟩
        have HGK := hid hgk
        rw [hgk] at c4 hgb
        have hgi : (gk : Int) ≤ 4611686018427387920 := by omega
        have hgi0 : (0 : Int) ≤ (gk : Int) := by omega
        have HS5 : Hid (SWB w (W4.setCell ⟨s, 4, none⟩ (.int .i64 ((gk + 1 : Nat) : Int))) q g s p pq n mm B (swpR mm P B T (16 * pg) (16 * pg + (k + 1))) D P runs A ca L (gk + 1)) := hid (HS4.out.own (HS4.out.h3.setGone _) (Only.setCell (S := (· = s)) (Only.refl _ _) (.inl rfl) _) HS4.out.la HS4.out.lb)
        have HO6 : Hid (Only (Gs g s) W0 (W4.setCell ⟨s, 4, none⟩ (.int .i64 ((gk + 1 : Nat) : Int)))) := hid (Only.setCell HO5.out (.inl (.inr rfl)) _)
        have HCK : Hid (gone + cntR mm P B T (16 * pg) (k + 1) = gk + 1) := hid (by rw [cntR_yes mm P B T (16 * pg) k HHA.out, ← hgk]; omega)
        rw [show ((gk + 1 : Nat) : Int) = (gk : Int) + 1 by omega] at HS5 HO6
        clear HS4 HO5 hgk
        go_wp2
        go_roundw
        case rel => exact ⟨k + 1, by omega, by go_num, hid (by rw [HCK.out]; exact HS5.out), HO6⟩
        case measure => simp [intOf]; omega
    · obtain rfl : k = 16 := by omega
      have c0 := HS.out.h3.c0
      have hlt := HS.out.h3.lt
      go_wp2_with (go_at_call 72; refine (fClean w _ q g n B _ D HS.out.h1 (pg : Int)).mono ?_; rintro e W4 ⟨rfl, HM4, HO4⟩)
      go_end0
      exact ⟨rfl, hid (HS.out.mem HM4.out HO4.out), hid (HO.out.trans HO4.out (fun i e => .inl (.inl e)))⟩

end Go.Proofs.Ythamfkbopjagdaa
