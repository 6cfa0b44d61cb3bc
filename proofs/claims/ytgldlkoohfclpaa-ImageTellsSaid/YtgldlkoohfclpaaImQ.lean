/- Layer 17: the reader. -/
import Derived.Test.YtgldlkoohfclpaaImO
import Derived.Laws.BitsLemmas
namespace Go.Proofs.Ytgldlkoohfclpaa
set_option linter.unusedSimpArgs false
set_option linter.unusedVariables false
open Go.RowKit

theorem wraps_64 (n : Int) (h0 : 0 ≤ n) (h1 : n < 2 ^ 63) : IntKind.i64.wrap n = n := by rw [IntKind.wrap_i64]; omega
theorem orB {x y : Int} (h0 : 0 ≤ x) (h2 : x < 256) (h3 : 0 ≤ y) (h4 : y < 256) : bits .or .i64 (x * 256) y = x * 256 + y :=
  bits_join .i64 63 (by decide) wraps_64 8 (x * 256) y (by omega) (by omega) (by omega) h3 h4 (by omega)
def atB (bl : List Int) (k : Nat) : Int := (bl[k]?).getD 0
theorem atB_byte {bl : List Int} (hb : byteL bl) (k : Nat) : 0 ≤ atB bl k ∧ atB bl k ≤ 255 := by
  unfold atB
  cases h : bl[k]? with
  | none => exact ⟨by decide, by decide⟩
  | some z => exact hb z (List.mem_of_getElem? h)
def numB (bl : List Int) (k : Nat) : Nat → Int
  | 0 => 0
  | n + 1 => numB bl k n * 256 + atB bl (k + n)
theorem numB_one (bl : List Int) (k : Nat) : numB bl k 1 = atB bl k := by simp [numB]
theorem numB_two (bl : List Int) (k : Nat) : numB bl k 2 = atB bl k * 256 + atB bl (k + 1) := by simp [numB]
/-- A reader, as it lies in memory. -/
structure RdrAt (w : World) (q : Nat) (A : Option Addr) (ca : Nat) (bl : List Int) (k : Nat) : Prop where
  lt : q < w.heap.size
  c0 : w.cell? ⟨q, 0, none⟩ = some (.slice A bl.length ca)
  c1 : w.cell? ⟨q, 1, none⟩ = some (.int .i64 (k : Int))
  f1 : w.frozen? ⟨q, 1, none⟩ = false
  rd : RdB w A bl
  ne : ∀ b o, 0 < bl.length → A = some ⟨b, o, none⟩ → ¬ b = q
theorem RdrAt.ext {w w' : World} {q : Nat} {A : Option Addr} {ca : Nat} {bl : List Int} {k : Nat} (h : RdrAt w q A ca bl k) (e : Ext w w') : RdrAt w' q A ca bl k := ⟨Nat.lt_of_lt_of_le h.lt e.size, (e.cells _ _ h.lt).trans h.c0, (e.cells _ _ h.lt).trans h.c1, (e.frozens _ _ h.lt).trans h.f1, by_rdB ((rdB_by h.rd).ext e), h.ne⟩
theorem RdrAt.only {S : Nat → Prop} {w w' : World} {q : Nat} {A : Option Addr} {ca : Nat} {bl : List Int} {k : Nat} (h : RdrAt w q A ca bl k) (e : Only S w w') (hq : ¬ S q) (hA : ∀ b o, 0 < bl.length → A = some ⟨b, o, none⟩ → b < w.heap.size → ¬ S b) : RdrAt w' q A ca bl k := ⟨Nat.lt_of_lt_of_le h.lt e.size, (e.cells _ _ h.lt hq).trans h.c0, (e.cells _ _ h.lt hq).trans h.c1, (e.frozens _ _ h.lt hq).trans h.f1, (fun h0 => by obtain ⟨b, o, e1, hb, _⟩ := h.rd h0; exact by_rdB ((rdB_by h.rd).only e (fun b2 o2 e2 => by rw [e1] at e2; cases e2; exact hA b o h0 e1 hb)) h0), h.ne⟩
theorem RdrAt.turn {w : World} {q : Nat} {A : Option Addr} {ca : Nat} {bl : List Int} {k : Nat} (h : RdrAt w q A ca bl k) (k' : Nat) (z : Int) (hz : z = (k' : Int)) : RdrAt (w.setCell ⟨q, 1, none⟩ (.int .i64 z)) q A ca bl k' where
  lt := by rw [World.size_setCell]; exact h.lt
  c0 := by have := h.c0; simp [go_sem, this]
  c1 := by subst hz; have h1 := h.lt; have h2 := h.c1; simp [go_sem, h1, h2]
  f1 := by have := h.f1; simp [go_sem, this]
  rd := fun h0 => by_rdB ((rdB_by h.rd).only (Only.setCell (S := fun i => i = q) (Only.refl _ w) (.inl rfl) _) (fun b o e => h.ne b o h0 e)) h0
  ne := h.ne
set_option maxRecDepth 100000 in
set_option maxHeartbeats 4000000 in
theorem at_ (A : Option Addr) (ca : Nat) (bl : List Int) (k : Nat) (w : World) (hA : RdB w A bl) (hb : byteL bl) (hn : bl.length ≤ 1000000) : Calls Try.prog 77 #[.slice A bl.length ca, .int .i64 (k : Int)] w fun e w' => e = .returned (.int .i64 (atB bl k)) ∧ Ext w w' := by
  by_cases hlt : k < bl.length
  · have h1 : ¬ (bl.length : Int) ≤ (k : Int) := by omega
    have h2 : (k : Int) < (bl.length : Int) := by omega
    have h0 : (0 : Int) ≤ (k : Int) := by omega
    obtain ⟨b, o, rfl, hb1, hc⟩ := hA (by omega)
    have c0 := hc k hlt
    have hb2 := atB_byte hb k
    obtain ⟨z, hz⟩ : ∃ y, atB bl k = y := ⟨_, rfl⟩
    rw [show bl[k] = z by rw [← hz]; unfold atB; rw [List.getElem?_eq_getElem hlt]; rfl] at c0
    rw [hz] at hb2 ⊢
    obtain ⟨z0, z1⟩ := hb2
    obtain ⟨n, hn'⟩ : ∃ y, bl.length = y := ⟨_, rfl⟩
    rw [hn'] at h1 h2 ⊢
    clear hz hc hA hb hn hn' hlt
    go_enter Try.func77, Try.ntmps77
    go_wp2
    go_ret
    exact ⟨rfl, (by repeat (first | (with_reducible exact Ext.refl _) | (with_reducible refine Ext.undrew ?_) | (with_reducible refine Ext.grow ?_ _) | (with_reducible refine Ext.drew ?_) | (with_reducible refine Ext.drewN ?_ _) | (with_reducible refine Ext.alloc ?_ _) | (with_reducible assumption) | ((with_reducible refine Ext.setCell ?_ ?_ _); rotate_left; (first | exact Nat.le_refl _ | ((try dsimp only); (try simp only [World.size_alloc, grow_size, World.size_setCell]); omega)))))⟩
  · have h1 : (bl.length : Int) ≤ (k : Int) := by omega
    rw [show atB bl k = 0 by unfold atB; rw [List.getElem?_eq_none (by omega)]; rfl]
    obtain ⟨n, hn'⟩ : ∃ y, bl.length = y := ⟨_, rfl⟩
    rw [hn'] at h1 ⊢
    clear hA hb hn hn' hlt
    go_enter Try.func77, Try.ntmps77
    go_wp2
    go_ret
    exact ⟨rfl, (by repeat (first | (with_reducible exact Ext.refl _) | (with_reducible refine Ext.undrew ?_) | (with_reducible refine Ext.grow ?_ _) | (with_reducible refine Ext.drew ?_) | (with_reducible refine Ext.drewN ?_ _) | (with_reducible refine Ext.alloc ?_ _) | (with_reducible assumption) | ((with_reducible refine Ext.setCell ?_ ?_ _); rotate_left; (first | exact Nat.le_refl _ | ((try dsimp only); (try simp only [World.size_alloc, grow_size, World.size_setCell]); omega)))))⟩
set_option maxRecDepth 100000 in
set_option maxHeartbeats 4000000 in
theorem number_ (w : World) (q : Nat) (A : Option Addr) (ca : Nat) (bl : List Int) (k many : Nat) (hm : many ≤ 2) (hk : k ≤ 1000000) (h : RdrAt w q A ca bl k) (hb : byteL bl) (hn : bl.length ≤ 1000000) : Calls Try.prog 55 #[.pointer (some ⟨q, 0, none⟩), .int .i64 (many : Int)] w fun e w' => e = .returned (.int .i64 (numB bl k many)) ∧ Hid (RdrAt w' q A ca bl (k + many)) ∧ Hid (Only (fun i => i = q) w w') := by
  have HR := hid h
  have HB := hid hb
  have HNB := hid hn
  clear h hb hn
  go_enter Try.func55, Try.ntmps55
  go_wp2
  go_loopw [5, 7] (fun v i wr => ∃ (j : Nat), j ≤ many ∧ i = .int .i64 j ∧ v = .int .i64 (numB bl k j) ∧ Hid (RdrAt wr q A ca bl (k + j)) ∧ Hid (Only (fun i => i = q) w wr)) (fun _ i _ => many - (intOf i).toNat)
  case atStart => exact ⟨0, Nat.zero_le _, rfl, rfl, HR, hid (Only.refl _ _)⟩
  case round =>
    clear HR
    obtain ⟨j, hj, rfl, rfl, HR, HO⟩ := hrel
    by_cases hlt : j < many
    · have hj1 : (j : Int) < (many : Int) := by omega
      have hj0 : (0 : Int) ≤ (j : Int) := by omega
      obtain ⟨n, hn⟩ : ∃ y, numB bl k j = y := ⟨_, rfl⟩
      have hnb : 0 ≤ n ∧ n ≤ 255 := by
        rcases (show j = 0 ∨ j = 1 by omega) with rfl | rfl
        · rw [← hn]; exact ⟨Int.le_refl 0, by show (0 : Int) ≤ 255; decide⟩
        · rw [← hn, numB_one]; exact atB_byte HB.out k
      have hz := atB_byte HB.out (k + j)
      have HAT := hid (fun W hx => at_ A ca bl (k + j) W (by_rdB ((rdB_by HR.out.rd).ext (w' := W) hx)) HB.out HNB.out)
      have HNX := hid (show numB bl k (j + 1) = numB bl k j * 256 + atB bl (k + j) from rfl)
      rw [hn] at HNX ⊢
      obtain ⟨z, hzz⟩ : ∃ y, atB bl (k + j) = y := ⟨_, rfl⟩
      rw [hzz] at hz HAT HNX
      obtain ⟨hn0, hn1⟩ := hnb
      obtain ⟨hz0, hz1⟩ := hz
      clear hzz hn
      have c0 := HR.out.c0
      have c1 := HR.out.c1
      have hl := HR.out.lt
      obtain ⟨kj, hkj⟩ : ∃ y, k + j = y := ⟨_, rfl⟩
      have HKJ := hid hkj
      rw [hkj] at c1 HAT HR
      have hkb : kj ≤ 1000002 := by omega
      clear hkj
      obtain ⟨bn, hbn⟩ : ∃ y, bl.length = y := ⟨_, rfl⟩
      rw [hbn] at c0 HAT
      clear hbn
      go_upto_region 4 with (fail)
      refine wp_region_step (.rd 0 (.rd 1 (.rd 2 (.rd 3 (.rd 4 (.rd 5 (.rd 6 (.rd 7 (.rd 8 (.rd 9 (.ac 10 (.rd 11 (.rd 12 .done))))))))))))) (by kernel_rfl) (by kernel_rfl) (fun _ _ d _ _ h => by cases d <;> exact h) (by simp only [Ord.map, nthOp, List.append]; rfl) ?_
      intro d0
      have HU0 := hid (Ext.grow (Ext.refl wr) d0)
      generalize Go.Proofs.Ytgldlkoohfclpaa.grow wr d0 = U0 at HU0 ⊢
      have hql := Nat.lt_of_lt_of_le hl HU0.out.size
      have d0c := (HU0.out.cells _ _ hl).trans c0
      have d1c := (HU0.out.cells _ _ hl).trans c1
      refine step_read (by rfl) (fun K hK => ?_)
      go_big_quiet_op
      refine hK _ ?_
      clear hK K
      refine step_read (by rfl) (fun K hK => ?_)
      go_big_quiet_op
      refine hK _ ?_
      clear hK K
      refine step_read (by rfl) (fun K hK => ?_)
      go_big_quiet_op
      refine hK _ ?_
      clear hK K
      refine step_read (by rfl) (fun K hK => ?_)
      go_big_quiet_op
      refine hK _ ?_
      clear hK K
      refine step_read (by rfl) (fun K hK => ?_)
      go_big_quiet_op
      refine hK _ ?_
      clear hK K
      refine step_read (by rfl) (fun K hK => ?_)
      go_big_quiet_op
      refine hK _ ?_
      clear hK K
      refine step_read (by rfl) (fun K hK => ?_)
      go_big_quiet_op
      refine hK _ ?_
      clear hK K
      refine step_read (by rfl) (fun K hK => ?_)
      go_big_quiet_op
      refine hK _ ?_
      clear hK K
      refine step_read (by rfl) (fun K hK => ?_)
      go_big_quiet_op
      refine hK _ ?_
      clear hK K
      refine step_read (by rfl) (fun K hK => ?_)
      go_big_quiet_op
      refine hK _ ?_
      clear hK K
      refine step_act (by rfl) (fun K hK => ?_)
      go_wp2_with (go_at_call 77; refine (HAT.out U0 HU0.out).mono ?_; rintro e U1 ⟨rfl, hx⟩)
      refine ⟨_, hx, Ext.refl _, ?_⟩
      have HU1 := hid (HU0.out.trans hx)
      have hxa10 := hx
      clear hx
      refine step_read (by rfl) (fun K hK => ?_)
      go_big_quiet_op
      refine hK _ ?_
      clear hK K
      refine step_read (by rfl) (fun K hK => ?_)
      go_big_quiet_op
      refine hK _ ?_
      clear hK K
      refine step_nil ?_
      have HR1 := hid (HR.out.ext HU1.out)
      rw [orB hn0 (by omega) hz0 (by omega)]
      have HO1 := hid (HO.out.transExt HU1.out)
      have x1 := HR1.out.c1
      have xf := HR1.out.f1
      have xl := HR1.out.lt
      clear c0 c1 hl hql d0c d1c HAT
      go_wp2
      go_roundw
      case rel => exact ⟨j + 1, by omega, by go_num, by rw [HNX.out], hid (by rw [show k + (j + 1) = kj + 1 by have := HKJ.out; omega]; exact HR1.out.turn (kj + 1) _ (by omega)), hid (Only.setCell HO1.out (.inl rfl) _)⟩
      case measure => simp [intOf]; omega
    · obtain rfl : many = j := by omega
      have hk1 : ¬ (many : Int) < (many : Int) := by omega
      go_wp2
      go_ret
      exact ⟨rfl, HR, HO⟩

end Go.Proofs.Ytgldlkoohfclpaa
