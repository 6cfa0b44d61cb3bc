/- Layer 7: two memories side by side. -/
import Derived.Test.YtgpeabbbeidhpaaTagP
namespace Go.Proofs.Ytgpeabbbeidhpaa
set_option linter.unusedSimpArgs false
set_option linter.unusedVariables false
open Go.RowKit

/-- What StoreCap makes of a memory, as functions. -/
def capOk (n : Nat) (x : Int) (c : Cap) : Prop := placeP n x ∧ rightC c = true
instance (n : Nat) (x : Int) (c : Cap) : Decidable (capOk n x c) := by unfold capOk placeP; infer_instance
def capB (n : Nat) (x : Int) (c : Cap) (B : Nat → Int) : Nat → Int := if capOk n x c then putB B x.toNat (bytesC c) else B
def capT (n : Nat) (x : Int) (c : Cap) (T : Nat → Bool) : Nat → Bool := if capOk n x c then upd1 T (x.toNat / 16) c.tag else T
def capD (n : Nat) (x : Int) (c : Cap) (D : Nat → Bool) : Nat → Bool := if capOk n x c then upd1 D (x.toNat / 256) (D (x.toNat / 256) || c.tag) else D
theorem hScAny (w W : World) (q g n : Nat) (B : Nat → Int) (T D : Nat → Bool) (h : HM w W q g n B T D) (x : Int) (t : Bool) (b tp at_ pm ty : Int) : Calls Try.prog 12 #[.pointer (some ⟨q, 0, none⟩), .int .i64 x, .agg #[.bool t, .int .i64 b, .int .i64 tp, .int .i64 at_, .int .i64 pm, .int .i64 ty]] W fun e W' => ∃ b', e = .returned (.bool b') ∧ Hid (HM w W' q g n (capB n x ⟨t, b, tp, at_, pm, ty⟩ B) (capT n x ⟨t, b, tp, at_, pm, ty⟩ T) (capD n x ⟨t, b, tp, at_, pm, ty⟩ D)) ∧ Hid (Only (· = g) W W') := by
  by_cases hs : capOk n x ⟨t, b, tp, at_, pm, ty⟩
  · unfold capB capT capD
    rw [if_pos hs, if_pos hs, if_pos hs]
    refine (hScYes w W q g n B T D h x t b tp at_ pm ty hs.1 hs.2).mono ?_
    rintro e W' ⟨p, i, hp, hi, hx, rfl, hm, ho⟩
    rw [show x.toNat = 256 * p + 16 * i by omega, show (256 * p + 16 * i) / 16 = 16 * p + i by omega, show (256 * p + 16 * i) / 256 = p by omega]
    exact ⟨true, rfl, hm, ho⟩
  · unfold capB capT capD
    rw [if_neg hs, if_neg hs, if_neg hs]
    refine (hScNo w W q g n B T D h x t b tp at_ pm ty hs).mono ?_
    rintro e W' ⟨rfl, hm, hx⟩
    exact ⟨false, rfl, hm, hid (Only.ofExt hx.out)⟩
/-- Two memories side by side. -/
structure TW (w W : World) (q g r s n : Nat) (B : Nat → Int) (T D : Nat → Bool) (B2 : Nat → Int) (T2 D2 : Nat → Bool) : Prop where
  h1 : HM w W q g n B T D
  h2 : HM w W r s n B2 T2 D2
  qr : ¬ q = r
  qs : ¬ q = s
  gr : ¬ g = r
  gs : ¬ g = s
theorem TW.ext {w W W' : World} {q g r s n : Nat} {B B2 : Nat → Int} {T D T2 D2 : Nat → Bool} (h : TW w W q g r s n B T D B2 T2 D2) (x : Ext W W') : TW w W' q g r s n B T D B2 T2 D2 := ⟨h.h1.ext x, h.h2.ext x, h.qr, h.qs, h.gr, h.gs⟩
theorem TW.up1 {w W W' : World} {q g r s n : Nat} {B B2 B' : Nat → Int} {T D T2 D2 T' D' : Nat → Bool} (h : TW w W q g r s n B T D B2 T2 D2) (hm : HM w W' q g n B' T' D') (x : Only (· = g) W W') : TW w W' q g r s n B' T' D' B2 T2 D2 :=
  ⟨hm, h.h2.only x (fun e => h.gr e.symm) (fun e => h.gs e.symm) (by rintro i rfl; exact h.h1.2.2.1), h.qr, h.qs, h.gr, h.gs⟩
theorem TW.up2 {w W W' : World} {q g r s n : Nat} {B B2 B' : Nat → Int} {T D T2 D2 T' D' : Nat → Bool} (h : TW w W q g r s n B T D B2 T2 D2) (hm : HM w W' r s n B' T' D') (x : Only (· = s) W W') : TW w W' q g r s n B T D B' T' D' :=
  ⟨h.h1.only x h.qs h.gs (by rintro i rfl; exact h.h2.2.2.1), hm, h.qr, h.qs, h.gr, h.gs⟩
theorem TW.two {w W W' : World} {q g r s n : Nat} {B B2 : Nat → Int} {T D T2 D2 : Nat → Bool} (h : HM w W q g n B T D) (h2 : HM W W' r s n B2 T2 D2) : TW w W' q g r s n B T D B2 T2 D2 := by
  have a1 := h.1.ltq
  have a2 := h.1.ltg
  have a3 := h2.2.2
  have a4 := h.2.1.size
  exact ⟨h.ext h2.2.1, ⟨h2.1, h.2.1.trans h2.2.1, by omega, by omega⟩, by omega, by omega, by omega, by omega⟩
/-- Bytes in two parts. -/
theorem putB_parts (B : Nat → Int) (a : Nat) (l : List Int) (j : Nat) (hj : j ≤ l.length) : putB (putB B a (l.take j)) (a + j) (l.drop j) = putB B a l := by
  funext y
  unfold putB
  rw [List.length_take, List.length_drop, Nat.min_eq_left hj]
  by_cases c1 : a + j ≤ y ∧ y < a + j + (l.length - j)
  · rw [if_pos c1, if_pos (by omega), List.getD_eq_getElem?_getD, List.getD_eq_getElem?_getD, List.getElem?_drop, show j + (y - (a + j)) = y - a by omega]
  · rw [if_neg c1]
    by_cases c2 : a ≤ y ∧ y < a + j
    · rw [if_pos c2, if_pos (by omega), List.getD_eq_getElem?_getD, List.getD_eq_getElem?_getD, List.getElem?_take_of_lt (by omega)]
    · rw [if_neg c2, if_neg (by omega)]
theorem clrT_parts (T : Nat → Bool) (a m j : Nat) (hj : j ≤ m) : clrT (clrT T a j) (a + j) (m - j) = clrT T a m := by
  funext t
  unfold clrT
  rw [Bool.and_assoc]
  congr 1
  rw [← Bool.not_or, ← Bool.decide_or]
  congr 1
  exact decide_eq_decide.2 (by omega)
theorem RdB.take {w : World} {A : Option Addr} {l : List Int} (h : RdB w A l) (j : Nat) : RdB w A (l.take j) := fun h0 => by
  obtain ⟨b, o, hA, hb, hc⟩ := h (by rw [List.length_take] at h0; omega)
  exact ⟨b, o, hA, hb, fun i hi => by rw [List.getElem_take]; exact hc i (by rw [List.length_take] at hi; omega)⟩
theorem RdB.drop {w : World} {A A' : Option Addr} {l : List Int} (h : RdB w A l) (j : Nat) (hA' : ∀ b o, A = some ⟨b, o, none⟩ → A' = some ⟨b, o + j, none⟩) : RdB w A' (l.drop j) := fun h0 => by
  rw [List.length_drop] at h0
  obtain ⟨b, o, hA, hb, hc⟩ := h (by omega)
  refine ⟨b, o + j, hA' b o hA, hb, fun i hi => ?_⟩
  rw [List.length_drop] at hi
  rw [List.getElem_drop, Nat.add_assoc]
  exact hc (j + i) (by omega)
open Go.ChangeShapes Go.WideShapes Go.ChangeAt Go.RowKit Go.Deep
section
variable {H : Type} {enc : TypeId × Value → H} {w : World} {base : Nat} {spare : Nat → Bool} {held : Bool}
theorem openBytes {r : Reach} {b0 : Nat} {v : Value} {d : DataW H} {p : List MemPlace} (hv : Value.okWide Try.prog w r b0 29 v) (h : DataW.Trod enc Try.prog w base spare held 29 v d p) :
    ∃ (A : Option Addr) (cap : Nat) (bl : List Int), v = .slice A bl.length cap ∧ bl.length ≤ cap ∧ cap ≤ maxLen ∧ RdB w A bl ∧ byteL bl ∧ (A = none → cap = 0) := by
  obtain ⟨a0, len, cap, rfl⟩ := okWide_slice Try.underlying29 hv
  obtain ⟨fuel, hf⟩ := h
  obtain ⟨A, ca, bl, hcs, h1, h2, h3, h4⟩ := trodBytes hf
  simp [Value.cells] at hcs
  obtain ⟨rfl, rfl, rfl⟩ := hcs
  refine ⟨_, _, bl, rfl, h1, h2, h3, h4, fun hA => ?_⟩
  rcases open_slice Try.underlying29 hf with ⟨e, _⟩ | ⟨a, len, cap', m, n', D, Pl, e, _⟩
  · simp [Value.cells] at e
    exact e.2.2
  · simp [Value.cells, hA] at e
end

end Go.Proofs.Ytgpeabbbeidhpaa
