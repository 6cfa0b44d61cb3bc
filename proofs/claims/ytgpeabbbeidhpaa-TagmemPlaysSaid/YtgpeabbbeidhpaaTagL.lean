/- Layer 7: the live question's calls. -/
import Derived.Test.YtgpeabbbeidhpaaTagK
namespace Go.Proofs.Ytgpeabbbeidhpaa
set_option linter.unusedSimpArgs false
set_option linter.unusedVariables false
open Go.RowKit

/-- The memory that the live question asks, as it goes on. -/
def HB (w W : World) (q g : Nat) (B : Nat → Int) (T D : Nat → Bool) : Prop := Mm W q g 2 B T D ∧ Ext w W ∧ w.heap.size ≤ g
theorem HB.ext {w W W' : World} {q g : Nat} {B : Nat → Int} {T D : Nat → Bool} (h : HB w W q g B T D) (x : Ext W W') : HB w W' q g B T D := ⟨h.1.ext x, h.2.1.trans x, h.2.2⟩
theorem HB.only {w W W' : World} {q g : Nat} {B B' : Nat → Int} {T D T' D' : Nat → Bool} (h : HB w W q g B T D) (x : Only (· = g) W W') (hm : Mm W' q g 2 B' T' D') : HB w W' q g B' T' D' := ⟨hm, Ext.only h.2.1 x (by rintro i rfl; exact h.2.2), h.2.2⟩
def hB1 : Nat → Int := putB (fun _ => 0) (256 * 1 + 16 * 0) (bytesC ⟨true, 16, 48, 20, 3, 0⟩)
def hT1 : Nat → Bool := upd1 (fun _ => false) (16 * 1 + 0) true
def hD1 : Nat → Bool := upd1 (fun _ => false) 1 (false || true)
def hB2 : Nat → Int := putB hB1 254 [1, 2, 3]
def hT2 : Nat → Bool := clrT hT1 254 3
def hD2 : Nat → Bool := upd1 hD1 1 false
theorem hb_sc (w W : World) (q g : Nat) (h : HB w W q g (fun _ => 0) (fun _ => false) (fun _ => false)) : Calls Try.prog 12 #[.pointer (some ⟨q, 0, none⟩), .int .i64 256, .agg #[.bool true, .int .i64 16, .int .i64 48, .int .i64 20, .int .i64 3, .int .i64 0]] W fun e W' => e = .returned (.bool true) ∧ Hid (HB w W' q g hB1 hT1 hD1) ∧ Hid (Only (· = g) W W') := by
  refine (tsc_yes q g 2 (fun _ => 0) (fun _ => false) (fun _ => false) W h.1 256 1 0 (by decide) (by decide) (by decide) true 16 48 20 3 0 (by rfl)).mono ?_
  rintro e W' ⟨rfl, hm, hx⟩
  exact ⟨rfl, hid (h.only hx.out hm.out), hx⟩
theorem hb_sc8 (w W : World) (q g : Nat) (h : HB w W q g hB1 hT1 hD1) : Calls Try.prog 12 #[.pointer (some ⟨q, 0, none⟩), .int .i64 8, .agg #[.bool true, .int .i64 16, .int .i64 48, .int .i64 20, .int .i64 3, .int .i64 0]] W fun e W' => e = .returned (.bool false) ∧ Hid (HB w W' q g hB1 hT1 hD1) ∧ Hid (Only (· = g) W W') := by
  refine (tsc_no1 q g 2 _ _ _ W h.1 8 true 16 48 20 3 0 (by unfold placeP; decide)).mono ?_
  rintro e W' ⟨rfl, hx⟩
  exact ⟨rfl, hid (h.ext hx), hid (Only.ofExt hx)⟩
theorem hb_lc1 (w W : World) (q g : Nat) (h : HB w W q g hB1 hT1 hD1) : Calls Try.prog 20 #[.pointer (some ⟨q, 0, none⟩), .int .i64 256] W fun e W' => e = .returned (.tuple #[.agg #[.bool true, .int .i64 16, .int .i64 48, .int .i64 20, .int .i64 3, .int .i64 0], .bool true]) ∧ Hid (HB w W' q g hB1 hT1 hD1) ∧ Hid (Only (· = g) W W') := by
  refine (tlc_yes q g 2 _ _ _ W h.1 256 1 0 (by decide) (by decide) (by decide)).mono ?_
  rw [show getL (bytesAt hB1 (256 * 1 + 16 * 0) 16) (hT1 (16 * 1 + 0)) = ⟨true, 16, 48, 20, 3, 0⟩ from by rfl]
  rintro e W' ⟨rfl, hx⟩
  exact ⟨rfl, hid (h.ext hx), hid (Only.ofExt hx)⟩
theorem hb_st (w W : World) (q g : Nat) (h : HB w W q g hB1 hT1 hD1) (b : Nat) (hr : RdB W (some ⟨b, 0, none⟩) [1, 2, 3]) (hb : ¬ b = g) : Calls Try.prog 22 #[.pointer (some ⟨q, 0, none⟩), .int .i64 254, .slice (some ⟨b, 0, none⟩) 3 3] W fun e W' => e = .returned (.bool true) ∧ Hid (HB w W' q g hB2 hT2 hD1) ∧ Hid (Only (· = g) W W') := by
  refine (tstore_yes q g 2 _ _ _ W h.1 254 (some ⟨b, 0, none⟩) 3 [1, 2, 3] hr (by unfold byteL; decide) (by decide) (by decide) (fun _ b' o' e => by cases e; exact hb)).mono ?_
  rintro e W' ⟨rfl, hm, hx⟩
  exact ⟨rfl, hid (h.only hx.out hm.out), hx⟩
theorem hb_lc2 (w W : World) (q g : Nat) (h : HB w W q g hB2 hT2 hD1) : Calls Try.prog 20 #[.pointer (some ⟨q, 0, none⟩), .int .i64 256] W fun e W' => ∃ b t a p k, e = .returned (.tuple #[.agg #[.bool false, .int .i64 b, .int .i64 t, .int .i64 a, .int .i64 p, .int .i64 k], .bool true]) ∧ Hid (HB w W' q g hB2 hT2 hD1) ∧ Hid (Only (· = g) W W') := by
  refine (tlc_yes q g 2 _ _ _ W h.1 256 1 0 (by decide) (by decide) (by decide)).mono ?_
  rw [show (getL (bytesAt hB2 (256 * 1 + 16 * 0) 16) (hT2 (16 * 1 + 0))).tag = false from by rfl]
  rintro e W' ⟨rfl, hx⟩
  exact ⟨_, _, _, _, _, rfl, hid (h.ext hx), hid (Only.ofExt hx)⟩
theorem hb_ld (w W : World) (q g : Nat) (h : HB w W q g hB2 hT2 hD1) : Calls Try.prog 18 #[.pointer (some ⟨q, 0, none⟩), .int .i64 254, .int .i64 4] W fun e W' => ∃ b, e = .returned (.tuple #[.slice (some ⟨b, 0, none⟩) 4 4, .bool true]) ∧ Hid (RdB W' (some ⟨b, 0, none⟩) [1, 2, 3, 0]) ∧ Hid (HB w W' q g hB2 hT2 hD1) ∧ Hid (Only (· = g) W W') ∧ ¬ b = g := by
  have hg := h.1.ltg
  refine (tload_yes q g 2 _ _ _ W h.1 254 4 (by decide)).mono ?_
  rw [show bytesAt hB2 254 4 = [1, 2, 3, 0] from by rfl]
  rintro e W' ⟨b, rfl, hr, hx, hb⟩
  exact ⟨b, rfl, hr, hid (h.ext hx.out), hid (Only.ofExt hx.out), by have := hb.out; omega⟩
theorem hb_cl (w W : World) (q g : Nat) (h : HB w W q g hB2 hT2 hD1) : Calls Try.prog 16 #[.pointer (some ⟨q, 0, none⟩), .int .i64 1] W fun e W' => e = .returned (.bool true) ∧ Hid (HB w W' q g hB2 hT2 hD2) ∧ Hid (Only (· = g) W W') := by
  refine (tclean_yes q g 2 _ _ _ W h.1 1 (by decide) (by rfl)).mono ?_
  rintro e W' ⟨rfl, hm, hx⟩
  exact ⟨rfl, hid (h.only hx.out hm.out), hx⟩
theorem hb_tg (w W : World) (q g : Nat) (h : HB w W q g hB2 hT2 hD2) : Calls Try.prog 25 #[.pointer (some ⟨q, 0, none⟩)] W fun e W' => ∃ A ca, e = .returned (.slice A 0 ca) ∧ Hid (HB w W' q g hB2 hT2 hD2) := by
  refine (ttags_ q g 2 _ _ _ W h.1).mono ?_
  rw [show (whichN hT2 (16 * 2)).length = 0 from by rfl]
  rintro e W' ⟨A, ca, rfl, _, hx, _⟩
  exact ⟨A, ca, rfl, hid (h.ext hx.out)⟩
theorem hb_dr (w W : World) (q g : Nat) (h : HB w W q g hB2 hT2 hD2) : Calls Try.prog 27 #[.pointer (some ⟨q, 0, none⟩)] W fun e W' => ∃ A ca, e = .returned (.slice A 0 ca) ∧ Hid (HB w W' q g hB2 hT2 hD2) := by
  refine (tdirty_ q g 2 _ _ _ W h.1).mono ?_
  rw [show (whichN hD2 2).length = 0 from by rfl]
  rintro e W' ⟨A, ca, rfl, _, hx, _⟩
  exact ⟨A, ca, rfl, hid (h.ext hx.out)⟩
theorem hb_sz (w W : World) (q g : Nat) (h : HB w W q g hB2 hT2 hD2) : Calls Try.prog 31 #[.pointer (some ⟨q, 0, none⟩)] W fun e W' => e = .returned (.int .i64 512) ∧ Hid (HB w W' q g hB2 hT2 hD2) := by
  refine (tsize_ q g 2 _ _ _ W h.1).mono ?_
  rintro e W' ⟨rfl, rfl⟩
  exact ⟨rfl, hid h⟩
theorem hb_sp (w W : World) (q g : Nat) (h : HB w W q g hB2 hT2 hD2) : Calls Try.prog 14 #[.pointer (some ⟨q, 0, none⟩), .int .i64 256] W fun e W' => e = .returned (.bool false) ∧ Hid (HB w W' q g hB2 hT2 hD2) := by
  refine (tstrip_no1 q g 2 _ _ _ W h.1 256 1 0 (by decide) (by decide) (by decide) (by rfl)).mono ?_
  rintro e W' ⟨rfl, rfl⟩
  exact ⟨rfl, hid h⟩
/-- A block of cells, as it lies. -/
def CapB (W : World) (b : Nat) (l : List Value) : Prop := b < W.heap.size ∧ ∀ j v, l[j]? = some v → W.cell? ⟨b, j, none⟩ = some v
theorem CapB.only {S : Nat → Prop} {W W' : World} {b : Nat} {l : List Value} (h : CapB W b l) (x : Only S W W') (hn : ¬ S b) : CapB W' b l := ⟨Nat.lt_of_lt_of_le h.1 x.size, fun j v hj => (x.cells b j h.1 hn).trans (h.2 j v hj)⟩
theorem CapB.ext {W W' : World} {b : Nat} {l : List Value} (h : CapB W b l) (x : Ext W W') : CapB W' b l := h.only (S := fun _ => False) (Only.ofExt x) id
theorem CapB.new (w : World) (cs : Array Value) (t : TypeId) : CapB (w.alloc (.cells cs t)) w.heap.size cs.toList := ⟨by simp, fun j v hj => by simp [go_sem]; simpa using hj⟩

end Go.Proofs.Ytgpeabbbeidhpaa
