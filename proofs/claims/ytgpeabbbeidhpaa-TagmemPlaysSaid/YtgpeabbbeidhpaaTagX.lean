/- Layer 7: both memories. -/
import Derived.Test.YtgpeabbbeidhpaaTagU
import Derived.Test.YtgpeabbbeidhpaaTagV
import Derived.Test.YtgpeabbbeidhpaaTagW
namespace Go.Proofs.Ytgpeabbbeidhpaa
set_option linter.unusedSimpArgs false
set_option linter.unusedVariables false
open Go.RowKit

def capOkB (n : Nat) (x : Int) (c : Cap) : Bool := decide (capOk n x c)
instance (n : Nat) (x : Int) : Decidable (placeP n x) := by unfold placeP; infer_instance
instance (n : Nat) (x m : Int) : Decidable (spanP n x m) := by unfold spanP; infer_instance
def tagAt (n : Nat) (T : Nat → Bool) (x : Int) : Bool := decide (placeP n x) && T (x.toNat / 16)
def stripT (n : Nat) (x : Int) (T : Nat → Bool) : Nat → Bool := if tagAt n T x = true then upd1 T (x.toNat / 16) false else T
def cleanB (n : Nat) (x : Int) (T : Nat → Bool) : Bool := decide (0 ≤ x ∧ x < (n : Int)) && !anyB (fun j => T (16 * x.toNat + j))
def cleanD (n : Nat) (x : Int) (T D : Nat → Bool) : Nat → Bool := if cleanB n x T = true then upd1 D x.toNat false else D
def spanB (n : Nat) (x : Int) (m : Nat) : Bool := decide (spanP n x m)
def stoB (n : Nat) (x : Int) (l : List Int) (B : Nat → Int) : Nat → Int := if spanB n x l.length = true then putB B x.toNat l else B
def stoT (n : Nat) (x : Int) (m : Nat) (T : Nat → Bool) : Nat → Bool := if spanB n x m = true then clrT T x.toNat m else T
theorem placeP_k {n : Nat} {x : Int} (h : placeP n x) : ∃ k : Nat, k < 16 * n ∧ x = 16 * (k : Int) ∧ x.toNat / 16 = k ∧ x.toNat = 16 * k := by
  obtain ⟨h1, h2, h3⟩ := h
  exact ⟨(x / 16).toNat, by omega, by omega, by omega, by omega⟩
theorem fSc (w W : World) (q g n : Nat) (B : Nat → Int) (T D : Nat → Bool) (h : HM w W q g n B T D) (x : Int) (t : Bool) (b tp at_ pm ty : Int) : Calls Try.prog 12 #[.pointer (some ⟨q, 0, none⟩), .int .i64 x, .agg #[.bool t, .int .i64 b, .int .i64 tp, .int .i64 at_, .int .i64 pm, .int .i64 ty]] W fun e W' => e = .returned (.bool (capOkB n x ⟨t, b, tp, at_, pm, ty⟩)) ∧ Hid (HM w W' q g n (capB n x ⟨t, b, tp, at_, pm, ty⟩ B) (capT n x ⟨t, b, tp, at_, pm, ty⟩ T) (capD n x ⟨t, b, tp, at_, pm, ty⟩ D)) ∧ Hid (Only (· = g) W W') := by
  by_cases hs : capOk n x ⟨t, b, tp, at_, pm, ty⟩
  · unfold capB capT capD capOkB
    rw [if_pos hs, if_pos hs, if_pos hs, decide_eq_true hs]
    refine (hScYes w W q g n B T D h x t b tp at_ pm ty hs.1 hs.2).mono ?_
    rintro e W' ⟨p, i, hp, hi, hx, rfl, hm, ho⟩
    rw [show x.toNat = 256 * p + 16 * i by omega, show (256 * p + 16 * i) / 16 = 16 * p + i by omega, show (256 * p + 16 * i) / 256 = p by omega]
    exact ⟨rfl, hm, ho⟩
  · unfold capB capT capD capOkB
    rw [if_neg hs, if_neg hs, if_neg hs, decide_eq_false hs]
    refine (hScNo w W q g n B T D h x t b tp at_ pm ty hs).mono ?_
    rintro e W' ⟨rfl, hm, hx⟩
    exact ⟨rfl, hm, hid (Only.ofExt hx.out)⟩
theorem rSc (W : World) (r gb gt gp n nb nt : Nat) (B : Nat → Int) (T D : Nat → Bool) (h : Rm W r gb gt gp n nb nt B T D) (x : Int) (t : Bool) (b tp at_ pm ty : Int) : Calls Try.prog 13 #[.pointer (some ⟨r, 0, none⟩), .int .i64 x, .agg #[.bool t, .int .i64 b, .int .i64 tp, .int .i64 at_, .int .i64 pm, .int .i64 ty]] W fun e W' => e = .returned (.bool (capOkB n x ⟨t, b, tp, at_, pm, ty⟩)) ∧ Hid (Rm W' r gb gt gp n nb nt (capB n x ⟨t, b, tp, at_, pm, ty⟩ B) (capT n x ⟨t, b, tp, at_, pm, ty⟩ T) (capD n x ⟨t, b, tp, at_, pm, ty⟩ D)) ∧ Hid (Only (Tri gb gt gp) W W') := by
  by_cases hs : capOk n x ⟨t, b, tp, at_, pm, ty⟩
  · obtain ⟨k, hk, hx, hk1, hk2⟩ := placeP_k hs.1
    unfold capB capT capD capOkB
    rw [if_pos hs, if_pos hs, if_pos hs, decide_eq_true hs, hk1, show x.toNat / 256 = k / 16 by omega, hk2]
    exact rmsc_yes r gb gt gp n nb nt B T D W h x k hk hx t b tp at_ pm ty hs.2
  · unfold capB capT capD capOkB
    rw [if_neg hs, if_neg hs, if_neg hs, decide_eq_false hs]
    refine (rmsc_no r gb gt gp n nb nt B T D W h x t b tp at_ pm ty hs).mono ?_
    rintro e W' ⟨rfl, hx⟩
    exact ⟨rfl, hid (h.ext hx), hid (Only.ofExt hx)⟩
theorem fTag (w W : World) (q g n : Nat) (B : Nat → Int) (T D : Nat → Bool) (h : HM w W q g n B T D) (x : Int) : Calls Try.prog 29 #[.pointer (some ⟨q, 0, none⟩), .int .i64 x] W fun e W' => e = .returned (.bool (tagAt n T x)) ∧ W = W' := by
  unfold tagAt
  by_cases hs : placeP n x
  · obtain ⟨p, i, hp, hi, hx⟩ := placeP_parts hs
    rw [decide_eq_true hs, Bool.true_and, show x.toNat / 16 = 16 * p + i by omega]
    exact ttag_yes q g n B T D W h.1 x p i hp hi hx
  · rw [decide_eq_false hs, Bool.false_and]
    exact ttag_no q g n B T D W h.1 x hs
theorem rTag (W : World) (r gb gt gp n nb nt : Nat) (B : Nat → Int) (T D : Nat → Bool) (h : Rm W r gb gt gp n nb nt B T D) (x : Int) : Calls Try.prog 30 #[.pointer (some ⟨r, 0, none⟩), .int .i64 x] W fun e W' => e = .returned (.bool (tagAt n T x)) ∧ W = W' := by
  unfold tagAt
  by_cases hs : placeP n x
  · obtain ⟨k, hk, hx, hk1, hk2⟩ := placeP_k hs
    rw [decide_eq_true hs, Bool.true_and, hk1]
    exact rmtag_yes r gb gt gp n nb nt B T D W h x k hk hx
  · rw [decide_eq_false hs, Bool.false_and]
    exact rmtag_no r gb gt gp n nb nt B T D W h x hs
theorem fStrip (w W : World) (q g n : Nat) (B : Nat → Int) (T D : Nat → Bool) (h : HM w W q g n B T D) (x : Int) : Calls Try.prog 14 #[.pointer (some ⟨q, 0, none⟩), .int .i64 x] W fun e W' => e = .returned (.bool (tagAt n T x)) ∧ Hid (HM w W' q g n (B) (stripT n x T) (D)) ∧ Hid (Only (· = g) W W') := by
  refine (hStrip w W q g n B T D h x).mono ?_
  rintro e W' ⟨b, rfl, ho, hb⟩
  rcases hb with ⟨rfl, hm, hc⟩ | ⟨rfl, p, i, hp, hi, hx, ht, hm⟩
  · have hf : tagAt n T x = false := by
      unfold tagAt
      rcases hc with hc | ⟨p, i, hp, hi, hx, ht⟩
      · rw [decide_eq_false hc, Bool.false_and]
      · rw [show x.toNat / 16 = 16 * p + i by omega, ht, Bool.and_false]
    unfold stripT
    rw [hf]
    exact ⟨rfl, hm, ho⟩
  · have hf : tagAt n T x = true := by
      unfold tagAt
      rw [show x.toNat / 16 = 16 * p + i by omega, ht, Bool.and_true]
      exact decide_eq_true ⟨by omega, by omega, by omega⟩
    unfold stripT
    rw [hf, if_pos rfl, show x.toNat / 16 = 16 * p + i by omega]
    exact ⟨rfl, hm, ho⟩
theorem rStrip (W : World) (r gb gt gp n nb nt : Nat) (B : Nat → Int) (T D : Nat → Bool) (h : Rm W r gb gt gp n nb nt B T D) (x : Int) : Calls Try.prog 15 #[.pointer (some ⟨r, 0, none⟩), .int .i64 x] W fun e W' => e = .returned (.bool (tagAt n T x)) ∧ Hid (Rm W' r gb gt gp n nb nt (B) (stripT n x T) (D)) ∧ Hid (Only (Tri gb gt gp) W W') := by
  unfold stripT tagAt
  by_cases hs : placeP n x
  · obtain ⟨k, hk, hx, hk1, hk2⟩ := placeP_k hs
    rw [decide_eq_true hs, Bool.true_and, hk1]
    cases ht : T k with
    | true =>
      rw [if_pos rfl]
      exact rmstrip_yes r gb gt gp n nb nt B T D W h x k hk hx ht
    | false =>
      rw [if_neg Bool.false_ne_true]
      refine (rmstrip_no1 r gb gt gp n nb nt B T D W h x k hk hx ht).mono ?_
      rintro e W' ⟨rfl, rfl⟩
      exact ⟨rfl, hid h, hid (Only.refl _ _)⟩
  · rw [decide_eq_false hs, Bool.false_and, if_neg Bool.false_ne_true]
    refine (rmstrip_no2 r gb gt gp n nb nt B T D W h x hs).mono ?_
    rintro e W' ⟨rfl, rfl⟩
    exact ⟨rfl, hid h, hid (Only.refl _ _)⟩
theorem fClean (w W : World) (q g n : Nat) (B : Nat → Int) (T D : Nat → Bool) (h : HM w W q g n B T D) (x : Int) : Calls Try.prog 16 #[.pointer (some ⟨q, 0, none⟩), .int .i64 x] W fun e W' => e = .returned (.bool (cleanB n x T)) ∧ Hid (HM w W' q g n (B) (T) (cleanD n x T D)) ∧ Hid (Only (· = g) W W') := by
  refine (hClean w W q g n B T D h x).mono ?_
  rintro e W' ⟨b, rfl, ho, hb⟩
  rcases hb with ⟨rfl, hm, hc⟩ | ⟨rfl, p, hp, hx, ht, hm⟩
  · have hf : cleanB n x T = false := by
      unfold cleanB
      rcases hc with hc | hc | ⟨p, hp, hx, ht⟩
      · rw [decide_eq_false (by omega), Bool.false_and]
      · rw [decide_eq_false (by omega), Bool.false_and]
      · rw [show x.toNat = p by omega, ht, Bool.not_true, Bool.and_false]
    unfold cleanD
    rw [hf]
    exact ⟨rfl, hm, ho⟩
  · have hf : cleanB n x T = true := by
      unfold cleanB
      rw [show x.toNat = p by omega, ht, Bool.not_false, Bool.and_true]
      exact decide_eq_true (by omega)
    unfold cleanD
    rw [hf, if_pos rfl, show x.toNat = p by omega]
    exact ⟨rfl, hm, ho⟩
theorem rClean (W : World) (r gb gt gp n nb nt : Nat) (B : Nat → Int) (T D : Nat → Bool) (h : Rm W r gb gt gp n nb nt B T D) (x : Int) : Calls Try.prog 17 #[.pointer (some ⟨r, 0, none⟩), .int .i64 x] W fun e W' => e = .returned (.bool (cleanB n x T)) ∧ Hid (Rm W' r gb gt gp n nb nt (B) (T) (cleanD n x T D)) ∧ Hid (Only (Tri gb gt gp) W W') := by
  unfold cleanD cleanB
  by_cases hs : 0 ≤ x ∧ x < (n : Int)
  · obtain ⟨p, rfl⟩ : ∃ p : Nat, x = (p : Int) := ⟨x.toNat, by omega⟩
    rw [decide_eq_true hs, Bool.true_and, Int.toNat_natCast]
    cases ha : anyB (fun j => T (16 * p + j)) with
    | true =>
      rw [Bool.not_true, if_neg Bool.false_ne_true]
      refine (rmclean_any r gb gt gp n nb nt B T D W h p (by omega) ha).mono ?_
      rintro e W' ⟨rfl, rfl⟩
      exact ⟨rfl, hid h, hid (Only.refl _ _)⟩
    | false =>
      rw [Bool.not_false, if_pos rfl]
      exact rmclean_yes r gb gt gp n nb nt B T D W h p (by omega) ha
  · rw [decide_eq_false hs, Bool.false_and, if_neg Bool.false_ne_true]
    refine (rmclean_no r gb gt gp n nb nt B T D W h x (by omega)).mono ?_
    rintro e W' ⟨rfl, rfl⟩
    exact ⟨rfl, hid h, hid (Only.refl _ _)⟩
theorem fSto (w W : World) (q g n : Nat) (B : Nat → Int) (T D : Nat → Bool) (h : HM w W q g n B T D) (x : Int) (A : Option Addr) (m ca : Nat) (l : List Int) (hm : l.length = m) (hr : RdB W A l) (hl : byteL l) (hca : m ≤ ca) (hA : 0 < m → ∀ b o, A = some ⟨b, o, none⟩ → ¬ b = g) : Calls Try.prog 22 #[.pointer (some ⟨q, 0, none⟩), .int .i64 x, .slice A m ca] W fun e W' => e = .returned (.bool (spanB n x m)) ∧ Hid (HM w W' q g n (stoB n x l B) (stoT n x m T) (D)) ∧ Hid (Only (· = g) W W') := by
  unfold stoB stoT spanB
  rw [hm]
  by_cases hs : spanP n x m
  · rw [decide_eq_true hs, if_pos rfl, if_pos rfl]
    refine (hStYes w W q g n B T D h x A m ca l hm hr hl hca hA hs).mono ?_
    rintro e W' ⟨a, ha, rfl, hmm, ho⟩
    rw [hm] at hmm
    rw [show x.toNat = a by omega]
    exact ⟨rfl, hmm, ho⟩
  · rw [decide_eq_false hs, if_neg Bool.false_ne_true, if_neg Bool.false_ne_true]
    refine (hStNo w W q g n B T D h x A m ca hs).mono ?_
    rintro e W' ⟨rfl, hmm, hx⟩
    exact ⟨rfl, hmm, hid (Only.ofExt hx.out)⟩
theorem rSto (W : World) (r gb gt gp n nb nt : Nat) (B : Nat → Int) (T D : Nat → Bool) (h : Rm W r gb gt gp n nb nt B T D) (x : Int) (A : Option Addr) (m ca : Nat) (l : List Int) (hm : l.length = m) (hr : RdB W A l) (hl : byteL l) (hca : m ≤ ca) (hA : 0 < m → ∀ b o, A = some ⟨b, o, none⟩ → ¬ Tri gb gt gp b) : Calls Try.prog 23 #[.pointer (some ⟨r, 0, none⟩), .int .i64 x, .slice A m ca] W fun e W' => e = .returned (.bool (spanB n x m)) ∧ Hid (Rm W' r gb gt gp n nb nt (stoB n x l B) (stoT n x m T) (D)) ∧ Hid (Only (Tri gb gt gp) W W') := by
  unfold stoB stoT spanB
  rw [hm]
  by_cases hs : spanP n x m
  · rw [decide_eq_true hs, if_pos rfl, if_pos rfl]
    obtain ⟨h0, h1, h2, h3⟩ := hs
    obtain ⟨a, rfl⟩ : ∃ a : Nat, x = (a : Int) := ⟨x.toNat, by omega⟩
    rw [Int.toNat_natCast]
    exact rmstore_yes r gb gt gp n nb nt B T D W h a A m ca l hm hr hl (by omega) hA
  · rw [decide_eq_false hs, if_neg Bool.false_ne_true, if_neg Bool.false_ne_true]
    refine (rmstore_no r gb gt gp n nb nt B T D W h x A m ca hs).mono ?_
    rintro e W' ⟨rfl, rfl⟩
    exact ⟨rfl, hid h, hid (Only.refl _ _)⟩
theorem fLc (w W : World) (q g n : Nat) (B : Nat → Int) (T D : Nat → Bool) (h : HM w W q g n B T D) (x : Int) (k : Nat) (hk : k < 16 * n) (hx : x = 16 * (k : Int)) (c : Cap) (hc : getL (bytesAt B (16 * k) 16) (T k) = c) : Calls Try.prog 20 #[.pointer (some ⟨q, 0, none⟩), .int .i64 x] W fun e W' => e = .returned (.tuple #[.agg #[.bool (c).tag, .int .i64 (c).base, .int .i64 (c).top, .int .i64 (c).at_, .int .i64 (c).perms, .int .i64 (c).type], .bool true]) ∧ Hid (HM w W' q g n B T D) ∧ Hid (Ext W W') := by
  refine hLcOf w W q g n B T D h x (k / 16) (k % 16) (by omega) (by omega) (by omega) c ?_
  rw [show 256 * (k / 16) + 16 * (k % 16) = 16 * k by omega, show 16 * (k / 16) + k % 16 = k by omega]
  exact hc
theorem rLc (W : World) (r gb gt gp n nb nt : Nat) (B : Nat → Int) (T D : Nat → Bool) (h : Rm W r gb gt gp n nb nt B T D) (x : Int) (k : Nat) (hk : k < 16 * n) (hx : x = 16 * (k : Int)) (c : Cap) (hc : getL (bytesAt B (16 * k) 16) (T k) = c) : Calls Try.prog 21 #[.pointer (some ⟨r, 0, none⟩), .int .i64 x] W fun e W' => e = .returned (.tuple #[.agg #[.bool (c).tag, .int .i64 (c).base, .int .i64 (c).top, .int .i64 (c).at_, .int .i64 (c).perms, .int .i64 (c).type], .bool true]) ∧ Ext W W' := by
  refine (rmlc_yes r gb gt gp n nb nt B T D W h x k hk hx).mono ?_
  rw [hc]
  exact fun e W' h => h
theorem fSize (w W : World) (q g n : Nat) (B : Nat → Int) (T D : Nat → Bool) (h : HM w W q g n B T D) (nb : Nat) (hn : nb = 256 * n) : Calls Try.prog 31 #[.pointer (some ⟨q, 0, none⟩)] W fun e W' => e = .returned (.int .i64 (nb : Int)) ∧ W = W' := by
  subst hn
  have := tsize_ q g n B T D W h.1
  rw [show ((256 * n : Nat) : Int) = 256 * (n : Int) by omega]
  exact this
theorem rmtagsN_ (r gb gt gp n nb nt : Nat) (B : Nat → Int) (T D : Nat → Bool) (W : World) (h : Rm W r gb gt gp n nb nt B T D) (tl : List Nat) (k : Nat) (hl : (whichN T nt).map (16 * ·) = tl) (hk : tl.length = k) : Calls Try.prog 26 #[.pointer (some ⟨r, 0, none⟩)] W fun e W' => ∃ A ca, e = .returned (.slice A k ca) ∧ Hid (RdN W' A tl) ∧ Hid (Ext W W') := by
  subst hl
  subst hk
  refine (rmtags_ r gb gt gp n nb nt B T D W h).mono ?_
  rintro e W' ⟨A, ca, rfl, hr, hx, _⟩
  exact ⟨A, ca, rfl, hr, hx⟩
theorem rmdirtyN_ (r gb gt gp n nb nt : Nat) (B : Nat → Int) (T D : Nat → Bool) (W : World) (h : Rm W r gb gt gp n nb nt B T D) (tl : List Nat) (k : Nat) (hl : whichN D n = tl) (hk : tl.length = k) : Calls Try.prog 28 #[.pointer (some ⟨r, 0, none⟩)] W fun e W' => ∃ A ca, e = .returned (.slice A k ca) ∧ Hid (RdN W' A tl) ∧ Hid (Ext W W') := by
  subst hl
  subst hk
  refine (rmdirty_ r gb gt gp n nb nt B T D W h).mono ?_
  rintro e W' ⟨A, ca, rfl, hr, hx, _⟩
  exact ⟨A, ca, rfl, hr, hx⟩
theorem rLd (W : World) (r gb gt gp n nb nt : Nat) (B : Nat → Int) (T D : Nat → Bool) (h : Rm W r gb gt gp n nb nt B T D) (x y : Int) (a m : Nat) (hx : x = (a : Int)) (hy : y = (m : Int)) (hfit : a + m ≤ 256 * n) (hm : m ≤ 900000) : Calls Try.prog 19 #[.pointer (some ⟨r, 0, none⟩), .int .i64 x, .int .i64 y] W fun e W' => RLdIs W B a m e W' := by
  subst hx
  subst hy
  exact rmload_yes r gb gt gp n nb nt B T D W h a m hfit hm
theorem RdB.onlyP {S : Nat → Prop} {w w' : World} {A : Option Addr} {l : List Int} (h : RdB w A l) (x : Only S w w') (hs : 0 < l.length → ∀ b o, A = some ⟨b, o, none⟩ → ¬ S b) : RdB w' A l := fun h0 => (h.only x (hs h0)) h0
theorem run_strA {P : Program} (w : World) (src dst e : TypeId) (hs : P.underlying src = some (.slice e)) (he : P.underlying e = some (.int .u8)) (hd : P.underlying dst = some .string) (A : Option Addr) (c : Nat) (ns : List Int) (n : Nat) (hn : ns.length = n)
    (h : RdB w A ns) (h0 : A = none ∧ n = 0 ∨ ∃ g, A = some ⟨g, 0, none⟩) : (convert src dst (.slice A n c)).run P w = .ok (.string (strOf ns)) w := by
  subst hn
  rcases h0 with ⟨rfl, h0⟩ | ⟨g, rfl⟩
  · exact run_str_any w src dst e hs he hd none c ns h (fun _ => rfl)
  · refine run_str w src dst e hs he hd g 0 c ns fun j hj => ?_
    obtain ⟨b, o, e1, _, hc⟩ := h (by omega)
    cases e1
    exact hc j hj
/-- Both memories, alike. -/
structure PB (w W : World) (q g r gb gt gp n nb nt : Nat) (B : Nat → Int) (T D : Nat → Bool) : Prop where
  h1 : HM w W q g n B T D
  h2 : Rm W r gb gt gp n nb nt B T D
  a1 : ¬ Tri gb gt gp q
  a2 : ¬ Tri gb gt gp g
  a3 : ¬ r = g
  a4 : w.heap.size ≤ gb ∧ w.heap.size ≤ gt ∧ w.heap.size ≤ gp
section
variable {w W W1 W2 : World} {q g r gb gt gp n nb nt : Nat} {B B' : Nat → Int} {T D T' D' : Nat → Bool}
theorem PB.ext (h : PB w W q g r gb gt gp n nb nt B T D) (x : Ext W W1) : PB w W1 q g r gb gt gp n nb nt B T D := ⟨h.h1.ext x, h.h2.ext x, h.a1, h.a2, h.a3, h.a4⟩
theorem PB.mid (h : PB w W q g r gb gt gp n nb nt B T D) (x : Only (· = g) W W1) : Rm W1 r gb gt gp n nb nt B T D :=
  h.h2.only x h.a3 (fun e => h.a2 (.inl e.symm)) (fun e => h.a2 (.inr (.inl e.symm))) (fun e => h.a2 (.inr (.inr e.symm)))
theorem PB.both (h : PB w W q g r gb gt gp n nb nt B T D) (m : HM w W1 q g n B' T' D') (k : Rm W2 r gb gt gp n nb nt B' T' D') (y : Only (Tri gb gt gp) W1 W2) : PB w W2 q g r gb gt gp n nb nt B' T' D' :=
  ⟨m.only y h.a1 h.a2 (by
    obtain ⟨k1, k2, k3⟩ := h.a4
    rintro i (rfl | rfl | rfl)
    · exact k1
    · exact k2
    · exact k3), k, h.a1, h.a2, h.a3, h.a4⟩
theorem PB.box {cb : Nat} {l : List Value} (h : PB w W q g r gb gt gp n nb nt B T D) (c : CapB W cb l) (hc : ¬ cb = g ∧ ¬ Tri gb gt gp cb) (x : Only (· = g) W W1) (y : Only (Tri gb gt gp) W1 W2) : CapB W2 cb l :=
  (c.only x hc.1).only y hc.2
end

end Go.Proofs.Ytgpeabbbeidhpaa
