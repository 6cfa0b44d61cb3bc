/- Layer 10: both sweeps side by side. -/
import Derived.Test.YthamfkbopjagdaaSweV
namespace Go.Proofs.Ythamfkbopjagdaa
set_option linter.unusedSimpArgs false
set_option linter.unusedVariables false
open Go.RowKit

/-- What a sweep is done on, told by values alone. -/
structure SSt where
  B : Nat → Int
  T : Nat → Bool
  D : Nat → Bool
  P : Nat → Bool
  runs : Bool
  L : List Nat
  gone : Nat
def SSt.sto (x : SSt) (a : Int) (l : List Int) : SSt := { x with B := stoB 4 a l x.B, T := stoT 4 a l.length x.T }
def SSt.sc (x : SSt) (a : Int) (c : Cap) : SSt := { x with B := capB 4 a c x.B, T := capT 4 a c x.T, D := capD 4 a c x.D }
def SSt.pa (x : SSt) (f t : Int) (b : Bool) : SSt := { x with P := paintP 64 x.P f t b }
def SSt.beg (x : SSt) : SSt := if x.runs = true then x else { x with runs := true, L := whichN x.D 4 }
def SSt.cnt (x : SSt) (k : Int) : Nat := stC x.runs x.L.length k
def SSt.step (x : SSt) (k : Int) : SSt := { x with T := (stS 4 64 x.P x.B (x.T, x.D, x.gone) (x.L.take (x.cnt k))).1, D := (stS 4 64 x.P x.B (x.T, x.D, x.gone) (x.L.take (x.cnt k))).2.1, gone := (stS 4 64 x.P x.B (x.T, x.D, x.gone) (x.L.take (x.cnt k))).2.2, runs := stR x.runs x.L.length k, L := x.L.drop (x.cnt k) }
def SSt.fits (x : SSt) (k : Nat) : Prop := x.L.length ≤ 4 ∧ x.gone ≤ 64 * k
theorem SSt.fits_beg {x : SSt} {k : Nat} (h : x.fits k) : x.beg.fits (k + 1) := by
  unfold SSt.beg
  split
  · exact ⟨h.1, by have := h.2; omega⟩
  · exact ⟨whichN_len x.D 4, by have := h.2; simp only; omega⟩
theorem SSt.fits_step {x : SSt} {k : Nat} (h : x.fits k) (j : Int) : (x.step j).fits (k + 1) := by
  have h1 := stS_le 4 64 x.P x.B (x.L.take (x.cnt j)) (x.T, x.D, x.gone)
  have h2 : (x.L.take (x.cnt j)).length ≤ 4 := by rw [List.length_take]; have := h.1; omega
  simp only at h1
  refine ⟨?_, ?_⟩
  · show (x.L.drop (x.cnt j)).length ≤ 4
    rw [List.length_drop]
    have := h.1
    omega
  · show (stS 4 64 x.P x.B (x.T, x.D, x.gone) (x.L.take (x.cnt j))).2.2 ≤ 64 * (k + 1)
    have := h.2
    omega
/-- The blocks that turn: the document's, the program's. -/
def Zr (gb gt gp t v i : Nat) : Prop := i = gb ∨ i = gt ∨ i = gp ∨ i = t ∨ i = v
def Zi (g s pq i : Nat) : Prop := i = g ∨ i = s ∨ i = pq
structure ApB (q g s p pq r gb gt gp t u v : Nat) : Prop where
  a : ¬ Zr gb gt gp t v q ∧ ¬ Zr gb gt gp t v g ∧ ¬ Zr gb gt gp t v s ∧ ¬ Zr gb gt gp t v p ∧ ¬ Zr gb gt gp t v pq
  b : ¬ Zi g s pq r ∧ ¬ Zi g s pq gb ∧ ¬ Zi g s pq gt ∧ ¬ Zi g s pq gp ∧ ¬ Zi g s pq t ∧ ¬ Zi g s pq u ∧ ¬ Zi g s pq v
/-- Both, side by side. -/
def DM (w W : World) (q g s p pq r gb gt gp t u v nb nt : Nat) (x y : SSt) : Prop :=
  ∃ A ca A' ca', SWB w W q g s p pq 4 64 x.B x.T x.D x.P x.runs A ca x.L x.gone ∧ SWR w W r gb gt gp t u v 4 nb nt 64 y.B y.T y.D y.P y.runs A' ca' y.L y.gone ∧ (∀ b o, A = some ⟨b, o, none⟩ → ¬ Zr gb gt gp t v b) ∧ (∀ b o, A' = some ⟨b, o, none⟩ → ¬ Zi g s pq b) ∧ ApB q g s p pq r gb gt gp t u v
theorem Only.wide {S T : Nat → Prop} {a b : World} (x : Only S a b) (h : ∀ i, S i → T i) : Only T a b := Only.trans (S := T) (Only.refl _ _) x (fun i hi => .inl (h i hi))
section
variable {w W W1 : World} {q g s p pq r gb gt gp t u v nb nt : Nat} {x y x' y' : SSt} {A A' A1 : Option Addr} {ca ca' ca1 : Nat}
theorem DM.ext (h : DM w W q g s p pq r gb gt gp t u v nb nt x y) (k : Ext W W1) : DM w W1 q g s p pq r gb gt gp t u v nb nt x y := by
  obtain ⟨A, ca, A', ca', h1, h2, h3⟩ := h
  exact ⟨A, ca, A', ca', h1.ext k, h2.ext k, h3⟩
theorem DM.base (h : DM w W q g s p pq r gb gt gp t u v nb nt x y) : Ext w W := by
  obtain ⟨A, ca, A', ca', h1, h2, h3⟩ := h
  exact h1.h1.2.1
theorem DM.low (h : DM w W q g s p pq r gb gt gp t u v nb nt x y) : (∀ i, Zr gb gt gp t v i → w.heap.size ≤ i) ∧ (∀ i, Zi g s pq i → w.heap.size ≤ i) ∧ (∀ i, Zr gb gt gp t v i → i < W.heap.size) ∧ (∀ i, Zi g s pq i → i < W.heap.size) := by
  obtain ⟨A, ca, A', ca', h1, h2, h3⟩ := h
  refine ⟨?_, ?_, ?_, ?_⟩
  · rintro i (e | e | e | e | e) <;> (subst e; have := h2.lo; omega)
  · rintro i (e | e | e) <;> subst e
    · exact h1.h1.2.2.1
    · exact h1.lo.1
    · exact h1.lo.2.2
  · rintro i (e | e | e | e | e) <;> subst e
    · exact h2.h1.lb
    · exact h2.h1.lt
    · exact h2.h1.lp
    · exact h2.h3.lt
    · exact h2.h2.ltq
  · rintro i (e | e | e) <;> subst e
    · exact h1.h1.1.ltg
    · exact h1.h3.lt
    · exact h1.h2.ltq
theorem DM.mkI (h1 : SWB w W q g s p pq 4 64 x.B x.T x.D x.P x.runs A ca x.L x.gone) (h2 : SWR w W r gb gt gp t u v 4 nb nt 64 y.B y.T y.D y.P y.runs A' ca' y.L y.gone) (a2 : ∀ b o, A' = some ⟨b, o, none⟩ → ¬ Zi g s pq b) (ap : ApB q g s p pq r gb gt gp t u v) (k1 : SWB w W1 q g s p pq 4 64 x'.B x'.T x'.D x'.P x'.runs A1 ca1 x'.L x'.gone) (b1 : ∀ b o, A1 = some ⟨b, o, none⟩ → ¬ Zr gb gt gp t v b) (on : Only (Zi g s pq) W W1) : DM w W1 q g s p pq r gb gt gp t u v nb nt x' y :=
  ⟨A1, ca1, A', ca', k1, h2.onlyS on ap.b a2 (by
    rintro i (e | e | e) <;> subst e
    · exact h1.h1.2.2.1
    · exact h1.lo.1
    · exact h1.lo.2.2), b1, a2, ap⟩
theorem DM.mkR (h1 : SWB w W q g s p pq 4 64 x.B x.T x.D x.P x.runs A ca x.L x.gone) (h2 : SWR w W r gb gt gp t u v 4 nb nt 64 y.B y.T y.D y.P y.runs A' ca' y.L y.gone) (a1 : ∀ b o, A = some ⟨b, o, none⟩ → ¬ Zr gb gt gp t v b) (ap : ApB q g s p pq r gb gt gp t u v) (k2 : SWR w W1 r gb gt gp t u v 4 nb nt 64 y'.B y'.T y'.D y'.P y'.runs A1 ca1 y'.L y'.gone) (b2 : ∀ b o, A1 = some ⟨b, o, none⟩ → ¬ Zi g s pq b) (on : Only (Zr gb gt gp t v) W W1) : DM w W1 q g s p pq r gb gt gp t u v nb nt x y' :=
  ⟨A, ca, A1, ca1, h1.onlyS on ap.a a1 (by rintro i (e | e | e | e | e) <;> (subst e; have := h2.lo; omega)), k2, a1, b2, ap⟩
end
set_option maxRecDepth 100000 in
set_option maxHeartbeats 4000000 in
theorem eStoI (w W : World) (q g s p pq r gb gt gp t u v nb nt : Nat) (x y : SSt) (h : DM w W q g s p pq r gb gt gp t u v nb nt x y) (a : Int) (A0 : Option Addr) (m c0 : Nat) (l : List Int) (hm : l.length = m) (hr : RdB w A0 l) (hl : byteL l) (hca : m ≤ c0) : Calls Try.prog 16 #[.pointer (some ⟨q, 0, none⟩), .int .i64 a, .slice A0 m c0] W fun e W' => e = .returned (.bool (spanB 4 a m)) ∧ Hid (DM w W' q g s p pq r gb gt gp t u v nb nt (x.sto a l) y ∧ Only (Zi g s pq) W W') := by
  obtain ⟨A, ca, A', ca', h1, h2, h3, h4, h5⟩ := h
  refine (fSto w W q g 4 x.B x.T x.D h1.h1 a A0 m c0 l hm (hr.ext h1.h1.2.1) hl hca (fun h0 b o e hb => by obtain ⟨b', o', e', hl', _⟩ := hr (by omega); rw [e] at e'; cases e'; have := h1.h1.2.2.1; omega)).mono ?_
  rintro e W' ⟨rfl, hk, ok⟩
  subst hm
  exact ⟨rfl, hid ⟨DM.mkI h1 h2 h4 h5 (h1.mem hk.out ok.out) h3 (Only.wide ok.out (by rintro i rfl; exact .inl rfl)), (Only.wide ok.out (by rintro i rfl; exact .inl rfl))⟩⟩
set_option maxRecDepth 100000 in
set_option maxHeartbeats 4000000 in
theorem eStoR (w W : World) (q g s p pq r gb gt gp t u v nb nt : Nat) (x y : SSt) (h : DM w W q g s p pq r gb gt gp t u v nb nt x y) (a : Int) (A0 : Option Addr) (m c0 : Nat) (l : List Int) (hm : l.length = m) (hr : RdB w A0 l) (hl : byteL l) (hca : m ≤ c0) : Calls Try.prog 17 #[.pointer (some ⟨r, 0, none⟩), .int .i64 a, .slice A0 m c0] W fun e W' => e = .returned (.bool (spanB 4 a m)) ∧ Hid (DM w W' q g s p pq r gb gt gp t u v nb nt x (y.sto a l) ∧ Only (Zr gb gt gp t v) W W') := by
  obtain ⟨A, ca, A', ca', h1, h2, h3, h4, h5⟩ := h
  refine (rSto W r gb gt gp 4 nb nt y.B y.T y.D h2.h1 a A0 m c0 l hm (hr.ext h1.h1.2.1) hl hca (fun h0 b o e hb => by obtain ⟨b', o', e', hl', _⟩ := hr (by omega); rw [e] at e'; cases e'; have := h2.lo; rcases hb with c | c | c <;> omega)).mono ?_
  rintro e W' ⟨rfl, hk, ok⟩
  subst hm
  exact ⟨rfl, hid ⟨DM.mkR h1 h2 h3 h5 (h2.mem hk.out ok.out) h4 (Only.wide ok.out (by rintro i (e | e | e); exact .inl e; exact .inr (.inl e); exact .inr (.inr (.inl e)))), (Only.wide ok.out (by rintro i (e | e | e); exact .inl e; exact .inr (.inl e); exact .inr (.inr (.inl e))))⟩⟩
set_option maxRecDepth 100000 in
set_option maxHeartbeats 4000000 in
theorem eScI (w W : World) (q g s p pq r gb gt gp t u v nb nt : Nat) (x y : SSt) (h : DM w W q g s p pq r gb gt gp t u v nb nt x y) (a : Int) (c : Cap) : Calls Try.prog 18 #[.pointer (some ⟨q, 0, none⟩), .int .i64 a, .agg #[.bool c.tag, .int .i64 c.base, .int .i64 c.top, .int .i64 c.at_, .int .i64 c.perms, .int .i64 c.type]] W fun e W' => e = .returned (.bool (capOkB 4 a c)) ∧ Hid (DM w W' q g s p pq r gb gt gp t u v nb nt (x.sc a c) y ∧ Only (Zi g s pq) W W') := by
  obtain ⟨A, ca, A', ca', h1, h2, h3, h4, h5⟩ := h
  refine (fSc w W q g 4 x.B x.T x.D h1.h1 a c.tag c.base c.top c.at_ c.perms c.type).mono ?_
  rintro e W' ⟨rfl, hk, ok⟩
  exact ⟨rfl, hid ⟨DM.mkI h1 h2 h4 h5 (h1.mem hk.out ok.out) h3 (Only.wide ok.out (by rintro i rfl; exact .inl rfl)), (Only.wide ok.out (by rintro i rfl; exact .inl rfl))⟩⟩
set_option maxRecDepth 100000 in
set_option maxHeartbeats 4000000 in
theorem eScR (w W : World) (q g s p pq r gb gt gp t u v nb nt : Nat) (x y : SSt) (h : DM w W q g s p pq r gb gt gp t u v nb nt x y) (a : Int) (c : Cap) : Calls Try.prog 19 #[.pointer (some ⟨r, 0, none⟩), .int .i64 a, .agg #[.bool c.tag, .int .i64 c.base, .int .i64 c.top, .int .i64 c.at_, .int .i64 c.perms, .int .i64 c.type]] W fun e W' => e = .returned (.bool (capOkB 4 a c)) ∧ Hid (DM w W' q g s p pq r gb gt gp t u v nb nt x (y.sc a c) ∧ Only (Zr gb gt gp t v) W W') := by
  obtain ⟨A, ca, A', ca', h1, h2, h3, h4, h5⟩ := h
  refine (rSc W r gb gt gp 4 nb nt y.B y.T y.D h2.h1 a c.tag c.base c.top c.at_ c.perms c.type).mono ?_
  rintro e W' ⟨rfl, hk, ok⟩
  exact ⟨rfl, hid ⟨DM.mkR h1 h2 h3 h5 (h2.mem hk.out ok.out) h4 (Only.wide ok.out (by rintro i (e | e | e); exact .inl e; exact .inr (.inl e); exact .inr (.inr (.inl e)))), (Only.wide ok.out (by rintro i (e | e | e); exact .inl e; exact .inr (.inl e); exact .inr (.inr (.inl e))))⟩⟩
set_option maxRecDepth 100000 in
set_option maxHeartbeats 4000000 in
theorem ePaI (w W : World) (q g s p pq r gb gt gp t u v nb nt : Nat) (x y : SSt) (h : DM w W q g s p pq r gb gt gp t u v nb nt x y) (a b : Int) (c : Bool) : Calls Try.prog 20 #[.pointer (some ⟨p, 0, none⟩), .int .i64 a, .int .i64 b, .bool c] W fun e W' => e = .returned (.bool (fineP 64 a b)) ∧ Hid (DM w W' q g s p pq r gb gt gp t u v nb nt (x.pa a b c) y ∧ Only (Zi g s pq) W W') := by
  obtain ⟨A, ca, A', ca', h1, h2, h3, h4, h5⟩ := h
  refine (paint_any h1.h2 a b c).mono ?_
  rintro e W' ⟨rfl, hk, ok⟩
  exact ⟨rfl, hid ⟨DM.mkI h1 h2 h4 h5 (h1.map hk ok) h3 (Only.wide ok (by rintro i rfl; exact .inr (.inr rfl))), (Only.wide ok (by rintro i rfl; exact .inr (.inr rfl)))⟩⟩
set_option maxRecDepth 100000 in
set_option maxHeartbeats 4000000 in
theorem ePaR (w W : World) (q g s p pq r gb gt gp t u v nb nt : Nat) (x y : SSt) (h : DM w W q g s p pq r gb gt gp t u v nb nt x y) (a b : Int) (c : Bool) : Calls Try.prog 21 #[.pointer (some ⟨u, 0, none⟩), .int .i64 a, .int .i64 b, .bool c] W fun e W' => e = .returned (.bool (fineP 64 a b)) ∧ Hid (DM w W' q g s p pq r gb gt gp t u v nb nt x (y.pa a b c) ∧ Only (Zr gb gt gp t v) W W') := by
  obtain ⟨A, ca, A', ca', h1, h2, h3, h4, h5⟩ := h
  refine (rpaint_any h2.h2 a b c).mono ?_
  rintro e W' ⟨rfl, hk, ok⟩
  exact ⟨rfl, hid ⟨DM.mkR h1 h2 h3 h5 (h2.map hk ok) h4 (Only.wide ok (by rintro i rfl; exact .inr (.inr (.inr (.inr rfl))))), (Only.wide ok (by rintro i rfl; exact .inr (.inr (.inr (.inr rfl)))))⟩⟩
set_option maxRecDepth 100000 in
set_option maxHeartbeats 4000000 in
theorem eBegI (w W : World) (q g s p pq r gb gt gp t u v nb nt : Nat) (x y : SSt) (h : DM w W q g s p pq r gb gt gp t u v nb nt x y) : Calls Try.prog 22 #[.pointer (some ⟨s, 0, none⟩)] W fun e W' => e = .returned (.bool (!x.runs)) ∧ Hid (DM w W' q g s p pq r gb gt gp t u v nb nt x.beg y ∧ Only (Zi g s pq) W W') := by
  obtain ⟨A, ca, A', ca', h1, h2, h3, h4, h5⟩ := h
  have hlow := DM.low (w := w) (W := W) ⟨A, ca, A', ca', h1, h2, h3, h4, h5⟩
  obtain ⟨B, T, D, P, runs, L, gone⟩ := x
  cases runs with
  | true =>
    refine (begin_no w W q g s p pq 4 64 B T D P A ca L gone h1).mono ?_
    rintro e W' ⟨rfl, rfl⟩
    exact ⟨rfl, hid ⟨⟨A, ca, A', ca', h1, h2, h3, h4, h5⟩, Only.refl _ _⟩⟩
  | false =>
    refine (begin2_ w W q g s p pq 4 64 B T D P A ca L gone h1).mono ?_
    rintro e W' ⟨A1, c1, rfl, k1, k2, k3⟩
    exact ⟨rfl, hid ⟨DM.mkI h1 h2 h4 h5 (x' := SSt.beg ⟨B, T, D, P, false, L, gone⟩) k1.out (fun b o e hz => by have h6 := k3.out b o e; have h7 := hlow.2.2.1 b hz; omega) (Only.wide k2.out (by rintro i (e | e); exact .inl e; exact .inr (.inl e))), (Only.wide k2.out (by rintro i (e | e); exact .inl e; exact .inr (.inl e)))⟩⟩
set_option maxRecDepth 100000 in
set_option maxHeartbeats 4000000 in
theorem eBegR (w W : World) (q g s p pq r gb gt gp t u v nb nt : Nat) (x y : SSt) (h : DM w W q g s p pq r gb gt gp t u v nb nt x y) : Calls Try.prog 23 #[.pointer (some ⟨t, 0, none⟩)] W fun e W' => e = .returned (.bool (!y.runs)) ∧ Hid (DM w W' q g s p pq r gb gt gp t u v nb nt x y.beg ∧ Only (Zr gb gt gp t v) W W') := by
  obtain ⟨A, ca, A', ca', h1, h2, h3, h4, h5⟩ := h
  have hlow := DM.low (w := w) (W := W) ⟨A, ca, A', ca', h1, h2, h3, h4, h5⟩
  obtain ⟨B, T, D, P, runs, L, gone⟩ := y
  cases runs with
  | true =>
    refine (rbegin_no w W r gb gt gp t u v 4 nb nt 64 B T D P A' ca' L gone h2).mono ?_
    rintro e W' ⟨rfl, rfl⟩
    exact ⟨rfl, hid ⟨⟨A, ca, A', ca', h1, h2, h3, h4, h5⟩, Only.refl _ _⟩⟩
  | false =>
    refine (rbegin_ w W r gb gt gp t u v 4 nb nt 64 B T D P A' ca' L gone h2).mono ?_
    rintro e W' ⟨A1, c1, rfl, k1, k2, k3⟩
    exact ⟨rfl, hid ⟨DM.mkR h1 h2 h3 h5 (y' := SSt.beg ⟨B, T, D, P, false, L, gone⟩) k1.out (fun b o e hz => by have h6 := k3.out b o e; have h7 := hlow.2.2.2 b hz; omega) (Only.wide k2.out (by rintro i ((e | e | e) | e); exact .inl e; exact .inr (.inl e); exact .inr (.inr (.inl e)); exact .inr (.inr (.inr (.inl e))))), (Only.wide k2.out (by rintro i ((e | e | e) | e); exact .inl e; exact .inr (.inl e); exact .inr (.inr (.inl e)); exact .inr (.inr (.inr (.inl e)))))⟩⟩
set_option maxRecDepth 100000 in
set_option maxHeartbeats 4000000 in
theorem eStI (w W : World) (q g s p pq r gb gt gp t u v nb nt : Nat) (x y : SSt) (h : DM w W q g s p pq r gb gt gp t u v nb nt x y) (k : Int) (hf1 : x.L.length ≤ 4) (hf2 : x.gone ≤ 100000) : Calls Try.prog 24 #[.pointer (some ⟨s, 0, none⟩), .int .i64 k] W fun e W' => e = .returned (.int .i64 (x.cnt k : Int)) ∧ Hid (DM w W' q g s p pq r gb gt gp t u v nb nt (x.step k) y ∧ Only (Zi g s pq) W W') := by
  obtain ⟨A, ca, A', ca', h1, h2, h3, h4, h5⟩ := h
  have hlow := DM.low (w := w) (W := W) ⟨A, ca, A', ca', h1, h2, h3, h4, h5⟩
  refine (stepX_ (fun i => i = pq ∨ Zr gb gt gp t v i) w W q g s p pq 4 64 x.B x.T x.D x.P x.runs A ca x.gone x.L h1 (.inl rfl) (by rintro i (e | e); subst e; exact h1.h2.ltq; exact hlow.2.2.1 i e) (fun b o e => by rintro (c | c); exact (h1.la b o e).2 c; exact h3 b o e c) (by omega) (by omega) k).mono ?_
  rintro e W' ⟨A1, c1, rfl, k1, k2, k3⟩
  exact ⟨rfl, hid ⟨DM.mkI h1 h2 h4 h5 (x' := x.step k) k1.out (fun b o e hz => k3.out b o e (.inr hz)) (Only.wide k2.out (by rintro i (e | e); exact .inl e; exact .inr (.inl e))), (Only.wide k2.out (by rintro i (e | e); exact .inl e; exact .inr (.inl e)))⟩⟩
set_option maxRecDepth 100000 in
set_option maxHeartbeats 4000000 in
theorem eStR (w W : World) (q g s p pq r gb gt gp t u v nb nt : Nat) (x y : SSt) (h : DM w W q g s p pq r gb gt gp t u v nb nt x y) (k : Int) (hf1 : y.L.length ≤ 4) (hf2 : y.gone ≤ 100000) (hB : ∀ i, 0 ≤ y.B i ∧ y.B i ≤ 255) : Calls Try.prog 25 #[.pointer (some ⟨t, 0, none⟩), .int .i64 k] W fun e W' => e = .returned (.int .i64 (y.cnt k : Int)) ∧ Hid (DM w W' q g s p pq r gb gt gp t u v nb nt x (y.step k) ∧ Only (Zr gb gt gp t v) W W') := by
  obtain ⟨A, ca, A', ca', h1, h2, h3, h4, h5⟩ := h
  have hlow := DM.low (w := w) (W := W) ⟨A, ca, A', ca', h1, h2, h3, h4, h5⟩
  refine (rstepX_ (Zi g s pq) w W r gb gt gp t u v 4 nb nt 64 y.B y.T y.D y.P y.runs A' ca' y.gone y.L h2 (fun i e => hlow.2.2.2 i e) h4 (by omega) (by omega) hB k).mono ?_
  rintro e W' ⟨A1, c1, rfl, k1, k2, k3⟩
  exact ⟨rfl, hid ⟨DM.mkR h1 h2 h3 h5 (y' := y.step k) k1.out k3.out (Only.wide k2.out (by rintro i ((e | e | e) | e); exact .inl e; exact .inr (.inl e); exact .inr (.inr (.inl e)); exact .inr (.inr (.inr (.inl e))))), (Only.wide k2.out (by rintro i ((e | e | e) | e); exact .inl e; exact .inr (.inl e); exact .inr (.inr (.inl e)); exact .inr (.inr (.inr (.inl e)))))⟩⟩
set_option maxRecDepth 100000 in
set_option maxHeartbeats 4000000 in
theorem dRunsI (w W : World) (q g s p pq r gb gt gp t u v nb nt : Nat) (x y : SSt) (h : DM w W q g s p pq r gb gt gp t u v nb nt x y) : Calls Try.prog 26 #[.pointer (some ⟨s, 0, none⟩)] W fun e W' => e = .returned (.bool x.runs) ∧ W = W' := by
  obtain ⟨A, ca, A', ca', h1, h2, h3, h4, h5⟩ := h
  exact swruns s q p _ _ _ _ _ W h1.h3
set_option maxRecDepth 100000 in
set_option maxHeartbeats 4000000 in
theorem dRunsR (w W : World) (q g s p pq r gb gt gp t u v nb nt : Nat) (x y : SSt) (h : DM w W q g s p pq r gb gt gp t u v nb nt x y) : Calls Try.prog 27 #[.pointer (some ⟨t, 0, none⟩)] W fun e W' => e = .returned (.bool y.runs) ∧ W = W' := by
  obtain ⟨A, ca, A', ca', h1, h2, h3, h4, h5⟩ := h
  exact rwruns t r u _ _ _ _ _ W h2.h3
set_option maxRecDepth 100000 in
set_option maxHeartbeats 4000000 in
theorem dLeftI (w W : World) (q g s p pq r gb gt gp t u v nb nt : Nat) (x y : SSt) (h : DM w W q g s p pq r gb gt gp t u v nb nt x y) : Calls Try.prog 28 #[.pointer (some ⟨s, 0, none⟩)] W fun e W' => e = .returned (.int .i64 (x.L.length : Int)) ∧ W = W' := by
  obtain ⟨A, ca, A', ca', h1, h2, h3, h4, h5⟩ := h
  exact swleft s q p _ _ _ _ _ W h1.h3
set_option maxRecDepth 100000 in
set_option maxHeartbeats 4000000 in
theorem dLeftR (w W : World) (q g s p pq r gb gt gp t u v nb nt : Nat) (x y : SSt) (h : DM w W q g s p pq r gb gt gp t u v nb nt x y) : Calls Try.prog 29 #[.pointer (some ⟨t, 0, none⟩)] W fun e W' => e = .returned (.int .i64 (y.L.length : Int)) ∧ W = W' := by
  obtain ⟨A, ca, A', ca', h1, h2, h3, h4, h5⟩ := h
  exact rwleft t r u _ _ _ _ _ W h2.h3
set_option maxRecDepth 100000 in
set_option maxHeartbeats 4000000 in
theorem dGoneI (w W : World) (q g s p pq r gb gt gp t u v nb nt : Nat) (x y : SSt) (h : DM w W q g s p pq r gb gt gp t u v nb nt x y) : Calls Try.prog 30 #[.pointer (some ⟨s, 0, none⟩)] W fun e W' => e = .returned (.int .i64 (x.gone : Int)) ∧ W = W' := by
  obtain ⟨A, ca, A', ca', h1, h2, h3, h4, h5⟩ := h
  exact swgone s q p _ _ _ _ _ W h1.h3
set_option maxRecDepth 100000 in
set_option maxHeartbeats 4000000 in
theorem dGoneR (w W : World) (q g s p pq r gb gt gp t u v nb nt : Nat) (x y : SSt) (h : DM w W q g s p pq r gb gt gp t u v nb nt x y) : Calls Try.prog 31 #[.pointer (some ⟨t, 0, none⟩)] W fun e W' => e = .returned (.int .i64 (y.gone : Int)) ∧ W = W' := by
  obtain ⟨A, ca, A', ca', h1, h2, h3, h4, h5⟩ := h
  exact rwgone t r u _ _ _ _ _ W h2.h3
set_option maxRecDepth 100000 in
set_option maxHeartbeats 4000000 in
theorem dTagsI (w W : World) (q g s p pq r gb gt gp t u v nb nt : Nat) (x y : SSt) (h : DM w W q g s p pq r gb gt gp t u v nb nt x y) (tl : List Nat) (k : Nat) (hl : (whichN x.T 64).map (16 * ·) = tl) (hk : tl.length = k) : Calls Try.prog 33 #[.pointer (some ⟨q, 0, none⟩)] W fun e W' => ∃ A0 c0, e = .returned (.slice A0 k c0) ∧ Hid (RdN W' A0 tl) ∧ Hid (Ext W W') := by
  obtain ⟨A, ca, A', ca', h1, h2, h3, h4, h5⟩ := h
  refine (hTags w W q g 4 x.B x.T x.D h1.h1 tl k hl hk).mono ?_
  rintro e W' ⟨A0, c0, rfl, k1, _, k2, _⟩
  exact ⟨A0, c0, rfl, k1, k2⟩
set_option maxRecDepth 100000 in
set_option maxHeartbeats 4000000 in
theorem dTagsR (w W : World) (q g s p pq r gb gt gp t u v nb nt : Nat) (x y : SSt) (h : DM w W q g s p pq r gb gt gp t u v nb nt x y) (tl : List Nat) (k : Nat) (hl : (whichN y.T 64).map (16 * ·) = tl) (hk : tl.length = k) : Calls Try.prog 34 #[.pointer (some ⟨r, 0, none⟩)] W fun e W' => ∃ A0 c0, e = .returned (.slice A0 k c0) ∧ Hid (RdN W' A0 tl) ∧ Hid (Ext W W') := by
  obtain ⟨A, ca, A', ca', h1, h2, h3, h4, h5⟩ := h
  refine (rmtagsN_ r gb gt gp 4 nb nt y.B y.T y.D W h2.h1 tl k (by rw [h2.h1.et]; exact hl) hk).mono ?_
  rintro e W' ⟨A0, c0, rfl, k1, k2⟩
  exact ⟨A0, c0, rfl, k1, k2⟩
set_option maxRecDepth 100000 in
set_option maxHeartbeats 4000000 in
theorem dDirtyI (w W : World) (q g s p pq r gb gt gp t u v nb nt : Nat) (x y : SSt) (h : DM w W q g s p pq r gb gt gp t u v nb nt x y) (tl : List Nat) (k : Nat) (hl : whichN x.D 4 = tl) (hk : tl.length = k) : Calls Try.prog 35 #[.pointer (some ⟨q, 0, none⟩)] W fun e W' => ∃ A0 c0, e = .returned (.slice A0 k c0) ∧ Hid (RdN W' A0 tl) ∧ Hid (Ext W W') := by
  obtain ⟨A, ca, A', ca', h1, h2, h3, h4, h5⟩ := h
  refine (hDirty w W q g 4 x.B x.T x.D h1.h1 tl k hl hk).mono ?_
  rintro e W' ⟨A0, c0, rfl, k1, _, k2, _⟩
  exact ⟨A0, c0, rfl, k1, k2⟩
set_option maxRecDepth 100000 in
set_option maxHeartbeats 4000000 in
theorem dDirtyR (w W : World) (q g s p pq r gb gt gp t u v nb nt : Nat) (x y : SSt) (h : DM w W q g s p pq r gb gt gp t u v nb nt x y) (tl : List Nat) (k : Nat) (hl : whichN y.D 4 = tl) (hk : tl.length = k) : Calls Try.prog 36 #[.pointer (some ⟨r, 0, none⟩)] W fun e W' => ∃ A0 c0, e = .returned (.slice A0 k c0) ∧ Hid (RdN W' A0 tl) ∧ Hid (Ext W W') := by
  obtain ⟨A, ca, A', ca', h1, h2, h3, h4, h5⟩ := h
  refine (rmdirtyN_ r gb gt gp 4 nb nt y.B y.T y.D W h2.h1 tl k hl hk).mono ?_
  rintro e W' ⟨A0, c0, rfl, k1, k2⟩
  exact ⟨A0, c0, rfl, k1, k2⟩
set_option maxRecDepth 100000 in
set_option maxHeartbeats 4000000 in
theorem dBarI (w W : World) (q g s p pq r gb gt gp t u v nb nt : Nat) (x y : SSt) (h : DM w W q g s p pq r gb gt gp t u v nb nt x y) (c : Cap) (hb : c.base ≤ 9223372036854775807) : Calls Try.prog 37 #[.pointer (some ⟨s, 0, none⟩), .agg #[.bool c.tag, .int .i64 c.base, .int .i64 c.top, .int .i64 c.at_, .int .i64 c.perms, .int .i64 c.type]] W fun e W' => e = .returned (.agg #[.bool (c.tag && !hitsP 64 x.P c.tag c.base c.top), .int .i64 c.base, .int .i64 c.top, .int .i64 c.at_, .int .i64 c.perms, .int .i64 c.type]) ∧ Ext W W' := by
  obtain ⟨A, ca, A', ca', h1, h2, h3, h4, h5⟩ := h
  exact barrier_ w W q g s p pq 4 64 x.B x.T x.D x.P x.runs A ca x.L x.gone h1 c.tag c.base c.top c.at_ c.perms c.type hb
set_option maxRecDepth 100000 in
set_option maxHeartbeats 4000000 in
theorem dBarR (w W : World) (q g s p pq r gb gt gp t u v nb nt : Nat) (x y : SSt) (h : DM w W q g s p pq r gb gt gp t u v nb nt x y) (c : Cap) (hb : c.base ≤ 9223372036854775807) : Calls Try.prog 38 #[.pointer (some ⟨t, 0, none⟩), .agg #[.bool c.tag, .int .i64 c.base, .int .i64 c.top, .int .i64 c.at_, .int .i64 c.perms, .int .i64 c.type]] W fun e W' => e = .returned (.agg #[.bool (c.tag && !hitsP 64 y.P c.tag c.base c.top), .int .i64 c.base, .int .i64 c.top, .int .i64 c.at_, .int .i64 c.perms, .int .i64 c.type]) ∧ Ext W W' := by
  obtain ⟨A, ca, A', ca', h1, h2, h3, h4, h5⟩ := h
  exact rbarrier_ w W r gb gt gp t u v 4 nb nt 64 y.B y.T y.D y.P y.runs A' ca' y.L y.gone h2 c.tag c.base c.top c.at_ c.perms c.type hb
theorem DM.rg {w W : World} {q g s p pq r gb gt gp t u v nb nt : Nat} {x y : SSt} (h : DM w W q g s p pq r gb gt gp t u v nb nt x y) : ∀ i, 0 ≤ x.B i ∧ x.B i ≤ 255 := by
  obtain ⟨A, ca, A', ca', h1, h2, h3⟩ := h
  exact h1.h1.1.rg

end Go.Proofs.Ythamfkbopjagdaa
