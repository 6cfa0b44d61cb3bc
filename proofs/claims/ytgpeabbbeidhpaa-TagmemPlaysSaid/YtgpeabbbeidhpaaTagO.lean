/- Layer 7: one memory's calls. -/
import Derived.Test.YtgpeabbbeidhpaaTagN
namespace Go.Proofs.Ytgpeabbbeidhpaa
set_option linter.unusedSimpArgs false
set_option linter.unusedVariables false
open Go.RowKit

/-- A memory that was made behind a world. -/
def HM (w W : World) (q g n : Nat) (B : Nat → Int) (T D : Nat → Bool) : Prop := Mm W q g n B T D ∧ Ext w W ∧ w.heap.size ≤ g ∧ w.heap.size ≤ q
theorem HM.ext {w W W' : World} {q g n : Nat} {B : Nat → Int} {T D : Nat → Bool} (h : HM w W q g n B T D) (x : Ext W W') : HM w W' q g n B T D := ⟨h.1.ext x, h.2.1.trans x, h.2.2⟩
theorem HM.upd {w W W' : World} {q g n : Nat} {B B' : Nat → Int} {T D T' D' : Nat → Bool} (h : HM w W q g n B T D) (x : Only (· = g) W W') (hm : Mm W' q g n B' T' D') : HM w W' q g n B' T' D' := ⟨hm, Ext.only h.2.1 x (by rintro i rfl; exact h.2.2.1), h.2.2⟩
theorem HM.only {S : Nat → Prop} {w W W' : World} {q g n : Nat} {B : Nat → Int} {T D : Nat → Bool} (h : HM w W q g n B T D) (x : Only S W W') (hq : ¬ S q) (hg : ¬ S g) (hs : ∀ i, S i → w.heap.size ≤ i) : HM w W' q g n B T D := ⟨h.1.only x hq hg, Ext.only h.2.1 x hs, h.2.2⟩
def StIs (w W W' : World) (q g n : Nat) (B : Nat → Int) (T D : Nat → Bool) (x : Int) (l : List Int) (e : Ending) : Prop := ∃ a : Nat, x = (a : Int) ∧ e = .returned (.bool true) ∧ Hid (HM w W' q g n (putB B a l) (clrT T a l.length) D) ∧ Hid (Only (· = g) W W')
def ScIs (w W W' : World) (q g n : Nat) (B : Nat → Int) (T D : Nat → Bool) (x : Int) (c : Cap) (e : Ending) : Prop := ∃ p i : Nat, p < n ∧ i < 16 ∧ x = 256 * (p : Int) + 16 * (i : Int) ∧ e = .returned (.bool true) ∧ Hid (HM w W' q g n (putB B (256 * p + 16 * i) (bytesC c)) (upd1 T (16 * p + i) c.tag) (upd1 D p (D p || c.tag))) ∧ Hid (Only (· = g) W W')
def StrIs (w W W' : World) (q g n : Nat) (B : Nat → Int) (T D : Nat → Bool) (x : Int) (e : Ending) : Prop := ∃ b, e = .returned (.bool b) ∧ Hid (Only (· = g) W W') ∧ ((b = false ∧ Hid (HM w W' q g n B T D) ∧ (¬ placeP n x ∨ ∃ p i : Nat, p < n ∧ i < 16 ∧ x = 256 * (p : Int) + 16 * (i : Int) ∧ T (16 * p + i) = false)) ∨ (b = true ∧ ∃ p i : Nat, p < n ∧ i < 16 ∧ x = 256 * (p : Int) + 16 * (i : Int) ∧ T (16 * p + i) = true ∧ Hid (HM w W' q g n B (upd1 T (16 * p + i) false) D)))
def ClIs (w W W' : World) (q g n : Nat) (B : Nat → Int) (T D : Nat → Bool) (x : Int) (e : Ending) : Prop := ∃ b, e = .returned (.bool b) ∧ Hid (Only (· = g) W W') ∧ ((b = false ∧ Hid (HM w W' q g n B T D) ∧ (x < 0 ∨ (n : Int) ≤ x ∨ ∃ p : Nat, p < n ∧ x = (p : Int) ∧ anyB (fun j => T (16 * p + j)) = true)) ∨ (b = true ∧ ∃ p : Nat, p < n ∧ x = (p : Int) ∧ anyB (fun j => T (16 * p + j)) = false ∧ Hid (HM w W' q g n B T (upd1 D p false))))
theorem placeP_parts {n : Nat} {x : Int} (h : placeP n x) : ∃ p i : Nat, p < n ∧ i < 16 ∧ x = 256 * (p : Int) + 16 * (i : Int) := by
  obtain ⟨h1, h2, h3⟩ := h
  exact ⟨(x / 256).toNat, (x % 256 / 16).toNat, by omega, by omega, by omega⟩
theorem hNew (n : Nat) (k : Int) (hk : k = (n : Int)) (w : World) (h1 : 1 ≤ n) (h2 : n ≤ 65536) : Calls Try.prog 10 #[.int .i64 k] w fun e w' => ∃ q, e = .returned (.pointer (some ⟨q, 0, none⟩)) ∧ ∃ g, Hid (HM w w' q g n (fun _ => 0) (fun _ => false) (fun _ => false)) := by
  subst hk
  refine (tnew_ n w h1 h2).mono ?_
  rintro e w' ⟨q, rfl, g, hm, hx, hq, hg⟩
  exact ⟨q, rfl, g, hid ⟨hm.out, hx.out, hg, hq⟩⟩
theorem hLoad (w W : World) (q g n : Nat) (B : Nat → Int) (T D : Nat → Bool) (h : HM w W q g n B T D) (x y : Int) (a m : Nat) (hx : x = (a : Int)) (hy : y = (m : Int)) (hfit : a + m ≤ 256 * n) : Calls Try.prog 18 #[.pointer (some ⟨q, 0, none⟩), .int .i64 x, .int .i64 y] W fun e W' => ∃ b, e = .returned (.tuple #[.slice (some ⟨b, 0, none⟩) m m, .bool true]) ∧ Hid (RdB W' (some ⟨b, 0, none⟩) (bytesAt B a m)) ∧ Hid (HM w W' q g n B T D) ∧ Hid (Ext W W') ∧ Hid (W.heap.size ≤ b ∧ b < W'.heap.size) := by
  subst hx hy
  refine (tload_yes q g n B T D W h.1 a m hfit).mono ?_
  rintro e W' ⟨b, rfl, hr, hx, hb⟩
  exact ⟨b, rfl, hr, hid (h.ext hx.out), hx, hb⟩
theorem hTags (w W : World) (q g n : Nat) (B : Nat → Int) (T D : Nat → Bool) (h : HM w W q g n B T D) (tl : List Nat) (k : Nat) (hl : (whichN T (16 * n)).map (16 * ·) = tl) (hk : tl.length = k) : Calls Try.prog 25 #[.pointer (some ⟨q, 0, none⟩)] W fun e W' => ∃ A ca, e = .returned (.slice A k ca) ∧ Hid (RdN W' A tl) ∧ Hid (HM w W' q g n B T D) ∧ Hid (Ext W W') ∧ Hid (∀ b o, A = some ⟨b, o, none⟩ → W.heap.size ≤ b) := by
  subst hl
  subst hk
  rw [List.length_map]
  refine (ttags_ q g n B T D W h.1).mono ?_
  rintro e W' ⟨A, ca, rfl, hr, hx, hb⟩
  exact ⟨A, ca, rfl, hr, hid (h.ext hx.out), hx, hb⟩
theorem hDirty (w W : World) (q g n : Nat) (B : Nat → Int) (T D : Nat → Bool) (h : HM w W q g n B T D) (tl : List Nat) (k : Nat) (hl : whichN D n = tl) (hk : tl.length = k) : Calls Try.prog 27 #[.pointer (some ⟨q, 0, none⟩)] W fun e W' => ∃ A ca, e = .returned (.slice A k ca) ∧ Hid (RdN W' A tl) ∧ Hid (HM w W' q g n B T D) ∧ Hid (Ext W W') ∧ Hid (∀ b o, A = some ⟨b, o, none⟩ → W.heap.size ≤ b) := by
  subst hl
  subst hk
  refine (tdirty_ q g n B T D W h.1).mono ?_
  rintro e W' ⟨A, ca, rfl, hr, hx, hb⟩
  exact ⟨A, ca, rfl, hr, hid (h.ext hx.out), hx, hb⟩
theorem hStYes (w W : World) (q g n : Nat) (B : Nat → Int) (T D : Nat → Bool) (h : HM w W q g n B T D) (x : Int) (A : Option Addr) (m ca : Nat) (l : List Int) (hm : l.length = m) (hr : RdB W A l) (hl : byteL l) (hca : m ≤ ca) (hA : 0 < m → ∀ b o, A = some ⟨b, o, none⟩ → ¬ b = g) (hs : spanP n x m) : Calls Try.prog 22 #[.pointer (some ⟨q, 0, none⟩), .int .i64 x, .slice A m ca] W fun e W' => StIs w W W' q g n B T D x l e := by
  subst hm
  obtain ⟨h0, h1, h2, h3⟩ := hs
  obtain ⟨a, rfl⟩ : ∃ a : Nat, x = (a : Int) := ⟨x.toNat, by omega⟩
  refine (tstore_yes q g n B T D W h.1 a A ca l hr hl hca (by omega) hA).mono ?_
  rintro e W' ⟨rfl, hm, hx⟩
  exact ⟨a, rfl, rfl, hid (h.upd hx.out hm.out), hx⟩
theorem hStNo (w W : World) (q g n : Nat) (B : Nat → Int) (T D : Nat → Bool) (h : HM w W q g n B T D) (x : Int) (A : Option Addr) (m ca : Nat) (hs : ¬ spanP n x m) : Calls Try.prog 22 #[.pointer (some ⟨q, 0, none⟩), .int .i64 x, .slice A m ca] W fun e W' => e = .returned (.bool false) ∧ Hid (HM w W' q g n B T D) ∧ Hid (Ext W W') := by
  refine (tstore_no q g n B T D W h.1 x A m ca hs).mono ?_
  rintro e W' ⟨rfl, rfl⟩
  exact ⟨rfl, hid h, hid (Ext.refl _)⟩
theorem hScYes (w W : World) (q g n : Nat) (B : Nat → Int) (T D : Nat → Bool) (h : HM w W q g n B T D) (x : Int) (t : Bool) (b tp at_ pm ty : Int) (hs : placeP n x) (hr : rightC ⟨t, b, tp, at_, pm, ty⟩ = true) : Calls Try.prog 12 #[.pointer (some ⟨q, 0, none⟩), .int .i64 x, .agg #[.bool t, .int .i64 b, .int .i64 tp, .int .i64 at_, .int .i64 pm, .int .i64 ty]] W fun e W' => ScIs w W W' q g n B T D x ⟨t, b, tp, at_, pm, ty⟩ e := by
  obtain ⟨p, i, hp, hi, hx⟩ := placeP_parts hs
  refine (tsc_yes q g n B T D W h.1 x p i hp hi hx t b tp at_ pm ty hr).mono ?_
  rintro e W' ⟨rfl, hm, ho⟩
  exact ⟨p, i, hp, hi, hx, rfl, hid (h.upd ho.out hm.out), ho⟩
theorem hScNo (w W : World) (q g n : Nat) (B : Nat → Int) (T D : Nat → Bool) (h : HM w W q g n B T D) (x : Int) (t : Bool) (b tp at_ pm ty : Int) (hs : ¬ (placeP n x ∧ rightC ⟨t, b, tp, at_, pm, ty⟩ = true)) : Calls Try.prog 12 #[.pointer (some ⟨q, 0, none⟩), .int .i64 x, .agg #[.bool t, .int .i64 b, .int .i64 tp, .int .i64 at_, .int .i64 pm, .int .i64 ty]] W fun e W' => e = .returned (.bool false) ∧ Hid (HM w W' q g n B T D) ∧ Hid (Ext W W') := by
  by_cases hp : placeP n x
  · refine (tsc_no2 q g n B T D W h.1 x t b tp at_ pm ty hp (Bool.eq_false_iff.2 fun hr => hs ⟨hp, hr⟩)).mono ?_
    rintro e W' ⟨rfl, hx⟩
    exact ⟨rfl, hid (h.ext hx), hid hx⟩
  · refine (tsc_no1 q g n B T D W h.1 x t b tp at_ pm ty hp).mono ?_
    rintro e W' ⟨rfl, hx⟩
    exact ⟨rfl, hid (h.ext hx), hid hx⟩
theorem hStrip (w W : World) (q g n : Nat) (B : Nat → Int) (T D : Nat → Bool) (h : HM w W q g n B T D) (x : Int) : Calls Try.prog 14 #[.pointer (some ⟨q, 0, none⟩), .int .i64 x] W fun e W' => StrIs w W W' q g n B T D x e := by
  by_cases hp : placeP n x
  · obtain ⟨p, i, hpn, hi, hx⟩ := placeP_parts hp
    cases ht : T (16 * p + i) with
    | false =>
      refine (tstrip_no1 q g n B T D W h.1 x p i hpn hi hx ht).mono ?_
      rintro e W' ⟨rfl, rfl⟩
      exact ⟨false, rfl, hid (Only.refl _ _), .inl ⟨rfl, hid h, .inr ⟨p, i, hpn, hi, hx, ht⟩⟩⟩
    | true =>
      refine (tstrip_yes q g n B T D W h.1 x p i hpn hi hx ht).mono ?_
      rintro e W' ⟨rfl, hm, ho⟩
      exact ⟨true, rfl, ho, .inr ⟨rfl, p, i, hpn, hi, hx, ht, hid (h.upd ho.out hm.out)⟩⟩
  · refine (tstrip_no2 q g n B T D W h.1 x hp).mono ?_
    rintro e W' ⟨rfl, rfl⟩
    exact ⟨false, rfl, hid (Only.refl _ _), .inl ⟨rfl, hid h, .inl hp⟩⟩
theorem hClean (w W : World) (q g n : Nat) (B : Nat → Int) (T D : Nat → Bool) (h : HM w W q g n B T D) (x : Int) : Calls Try.prog 16 #[.pointer (some ⟨q, 0, none⟩), .int .i64 x] W fun e W' => ClIs w W W' q g n B T D x e := by
  by_cases h0 : x < 0
  · refine (tclean_no1 q g n B T D W h.1 x h0).mono ?_
    rintro e W' ⟨rfl, rfl⟩
    exact ⟨false, rfl, hid (Only.refl _ _), .inl ⟨rfl, hid h, .inl h0⟩⟩
  · by_cases h1 : (n : Int) ≤ x
    · refine (tclean_no2 q g n B T D W h.1 x (by omega) h1).mono ?_
      rintro e W' ⟨rfl, rfl⟩
      exact ⟨false, rfl, hid (Only.refl _ _), .inl ⟨rfl, hid h, .inr (.inl h1)⟩⟩
    · obtain ⟨p, rfl⟩ : ∃ p : Nat, x = (p : Int) := ⟨x.toNat, by omega⟩
      have hpn : p < n := by omega
      cases ha : anyB (fun j => T (16 * p + j)) with
      | true =>
        refine (tclean_no3 q g n B T D W h.1 p hpn ha).mono ?_
        rintro e W' ⟨rfl, rfl⟩
        exact ⟨false, rfl, hid (Only.refl _ _), .inl ⟨rfl, hid h, .inr (.inr ⟨p, hpn, rfl, ha⟩)⟩⟩
      | false =>
        refine (tclean_yes q g n B T D W h.1 p hpn ha).mono ?_
        rintro e W' ⟨rfl, hm, ho⟩
        exact ⟨true, rfl, ho, .inr ⟨rfl, p, hpn, rfl, ha, hid (h.upd ho.out hm.out)⟩⟩

end Go.Proofs.Ytgpeabbbeidhpaa
