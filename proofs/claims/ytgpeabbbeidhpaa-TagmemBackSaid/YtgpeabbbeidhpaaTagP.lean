/- Layer 7: what a call does to one tag. -/
import Derived.Test.YtgpeabbbeidhpaaTagO
namespace Go.Proofs.Ytgpeabbbeidhpaa
set_option linter.unusedSimpArgs false
set_option linter.unusedVariables false
open Go.RowKit

theorem wrapT {x : Int} (h0 : 0 ≤ x) (h1 : x ≤ 99999) : wrap64 x = x := by simp [wrap64]; omega
/-- What is left: a memory, and what a tag is. -/
def TgIs (w W W' : World) (q g n kk : Nat) (e : Ending) (b : Bool) (tv : Bool) : Prop := ∃ (B' : Nat → Int) (T' D' : Nat → Bool), e = .returned (.bool b) ∧ Hid (HM w W' q g n B' T' D') ∧ Hid (Only (· = g) W W') ∧ Hid (T' kk = tv)
theorem gCapYes (w W : World) (q g n : Nat) (B : Nat → Int) (T D : Nat → Bool) (h : HM w W q g n B T D) (kk : Nat) (hkk : kk < 16 * n) (x : Int) (t : Bool) (b tp at_ pm ty : Int) (hs : placeP n x) (hr : rightC ⟨t, b, tp, at_, pm, ty⟩ = true) (tv : Bool) (ht : (if x = 16 * (kk : Int) then t else T kk) = tv) : Calls Try.prog 12 #[.pointer (some ⟨q, 0, none⟩), .int .i64 x, .agg #[.bool t, .int .i64 b, .int .i64 tp, .int .i64 at_, .int .i64 pm, .int .i64 ty]] W fun e W' => TgIs w W W' q g n kk e true tv := by
  refine (hScYes w W q g n B T D h x t b tp at_ pm ty hs hr).mono ?_
  rintro e W' ⟨p, i, hp, hi, hx, rfl, hm, ho⟩
  refine ⟨_, _, _, rfl, hm, ho, hid ?_⟩
  rw [← ht]
  by_cases c : x = 16 * (kk : Int)
  · rw [if_pos c]
    obtain rfl : kk = 16 * p + i := by omega
    simp [upd1]
  · rw [if_neg c]
    have : ¬ kk = 16 * p + i := by omega
    simp [upd1, this]
theorem gStrip (w W : World) (q g n : Nat) (B : Nat → Int) (T D : Nat → Bool) (h : HM w W q g n B T D) (kk : Nat) (hkk : kk < 16 * n) (x : Int) (tv : Bool) (ht : (T kk && !decide (x = 16 * (kk : Int))) = tv) : Calls Try.prog 14 #[.pointer (some ⟨q, 0, none⟩), .int .i64 x] W fun e W' => ∃ b, TgIs w W W' q g n kk e b tv := by
  refine (hStrip w W q g n B T D h x).mono ?_
  rintro e W' ⟨b, rfl, ho, hd⟩
  refine ⟨b, ?_⟩
  rcases hd with ⟨rfl, hm, hc⟩ | ⟨rfl, p, i, hp, hi, hx, hT, hm⟩
  · refine ⟨_, _, _, rfl, hm, ho, hid ?_⟩
    rw [← ht]
    by_cases c : x = 16 * (kk : Int)
    · rcases hc with hc | ⟨p, i, hp, hi, hx, hT⟩
      · exact absurd ⟨by omega, by omega, by omega⟩ hc
      · obtain rfl : kk = 16 * p + i := by omega
        simp [hT]
    · simp [c]
  · refine ⟨_, _, _, rfl, hm, ho, hid ?_⟩
    rw [← ht]
    by_cases c : x = 16 * (kk : Int)
    · obtain rfl : kk = 16 * p + i := by omega
      simp [upd1, c]
    · have : ¬ kk = 16 * p + i := by omega
      simp [upd1, this, c]
theorem gClean (w W : World) (q g n : Nat) (B : Nat → Int) (T D : Nat → Bool) (h : HM w W q g n B T D) (kk : Nat) (hkk : kk < 16 * n) (x : Int) (tv : Bool) (ht : T kk = tv) : Calls Try.prog 16 #[.pointer (some ⟨q, 0, none⟩), .int .i64 x] W fun e W' => ∃ b, TgIs w W W' q g n kk e b tv := by
  refine (hClean w W q g n B T D h x).mono ?_
  rintro e W' ⟨b, rfl, ho, hd⟩
  refine ⟨b, ?_⟩
  rcases hd with ⟨rfl, hm, _⟩ | ⟨rfl, p, _, _, _, hm⟩
  · exact ⟨_, _, _, rfl, hm, ho, hid ht⟩
  · exact ⟨_, _, _, rfl, hm, ho, hid ht⟩
theorem gStYes (w W : World) (q g n : Nat) (B : Nat → Int) (T D : Nat → Bool) (h : HM w W q g n B T D) (kk : Nat) (hkk : kk < 16 * n) (x : Int) (A : Option Addr) (m ca : Nat) (l : List Int) (hm : l.length = m) (hr : RdB W A l) (hl : byteL l) (hca : m ≤ ca) (hA : 0 < m → ∀ b o, A = some ⟨b, o, none⟩ → ¬ b = g) (hs : spanP n x m) (tv : Bool) (ht : (T kk && !decide (0 < m ∧ x < 16 * (kk : Int) + 16 ∧ 16 * (kk : Int) < x + m)) = tv) : Calls Try.prog 22 #[.pointer (some ⟨q, 0, none⟩), .int .i64 x, .slice A m ca] W fun e W' => TgIs w W W' q g n kk e true tv := by
  refine (hStYes w W q g n B T D h x A m ca l hm hr hl hca hA hs).mono ?_
  rintro e W' ⟨a, rfl, rfl, hm', ho⟩
  refine ⟨_, _, _, rfl, hm', ho, hid ?_⟩
  rw [← ht, hm]
  unfold clrT
  congr 2
  exact decide_eq_decide.2 (by omega)
theorem gTag (w W : World) (q g n : Nat) (B : Nat → Int) (T D : Nat → Bool) (h : HM w W q g n B T D) (kk : Nat) (hkk : kk < 16 * n) (x : Int) (hx : x = 16 * (kk : Int)) (tv : Bool) (ht : T kk = tv) : Calls Try.prog 29 #[.pointer (some ⟨q, 0, none⟩), .int .i64 x] W fun e W' => e = .returned (.bool tv) ∧ W = W' := by
  subst hx
  subst ht
  have := ttag_yes q g n B T D W h.1 (16 * (kk : Int)) (kk / 16) (kk % 16) (by omega) (by omega) (by omega)
  rwa [show 16 * (kk / 16) + kk % 16 = kk by omega] at this

end Go.Proofs.Ytgpeabbbeidhpaa
