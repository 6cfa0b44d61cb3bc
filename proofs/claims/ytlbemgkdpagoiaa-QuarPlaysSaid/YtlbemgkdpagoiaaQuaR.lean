/- Layer 13: one and the document's side by side. -/
import Derived.Test.YtlbemgkdpagoiaaQuaP
namespace Go.Proofs.Ytlbemgkdpagoiaa
set_option linter.unusedSimpArgs false
set_option linter.unusedVariables false
open Go.RowKit

/-- One and the document's, side by side. -/
structure QR (w0 W : World) (full : Int) (q base : Nat) (v : Value) (l : List Hd) (r rb : Nat) (vr : Value) (m : List Hd) : Prop where
  hq : Qs W q base full (sumL l) v l
  hr : Rq W r rb full vr m
  ne : ¬ q = r
  vq : ¬ v.ownBlock = some r
  rv : ¬ vr.ownBlock = some q
  vv : ∀ g, v.ownBlock = some g → ¬ vr.ownBlock = some g
  ex : Ext w0 W
  b1 : w0.heap.size ≤ base
  b2 : w0.heap.size ≤ rb
def nwr (w0 : World) : Nat → Prop := fun i => w0.heap.size ≤ i
theorem QR.ext {w0 W w' : World} {full : Int} {q base : Nat} {v : Value} {l : List Hd} {r rb : Nat} {vr : Value} {m : List Hd} (h : QR w0 W full q base v l r rb vr m) (x : Ext W w') : QR w0 w' full q base v l r rb vr m :=
  ⟨h.hq.ext x, h.hr.ext x, h.ne, h.vq, h.rv, h.vv, h.ex.trans x, h.b1, h.b2⟩
theorem QR.nq {w0 W w' : World} {full : Int} {q base : Nat} {v : Value} {l : List Hd} {r rb : Nat} {vr : Value} {m : List Hd} (h : QR w0 W full q base v l r rb vr m) (x : Only (tch q v) W w') : Only (nwr w0) W w' := x.mono (by
  rintro i (rfl | e)
  · exact Nat.le_trans h.b1 h.hq.2.2.2.2.1
  · exact Nat.le_trans h.b1 (h.hq.2.2.2.1.lt i e).1)
theorem QR.nr {w0 W w' : World} {full : Int} {q base : Nat} {v : Value} {l : List Hd} {r rb : Nat} {vr : Value} {m : List Hd} (h : QR w0 W full q base v l r rb vr m) (x : Only (tch r vr) W w') : Only (nwr w0) W w' := x.mono (by
  rintro i (rfl | e)
  · exact Nat.le_trans h.b2 h.hr.2.2.2.2.1
  · exact Nat.le_trans h.b2 (h.hr.2.2.2.1.lt i e).1)
theorem QR.updQ {w0 W w' : World} {full : Int} {q base : Nat} {v : Value} {l : List Hd} {r rb : Nat} {vr : Value} {m : List Hd} {v' : Value} {l' : List Hd} (h : QR w0 W full q base v l r rb vr m) (hq' : Qs w' q base full (sumL l') v' l') (x : Only (tch q v) W w') (hv : ∀ g, v'.ownBlock = some g → v.ownBlock = some g ∨ W.heap.size ≤ g) : QR w0 w' full q base v' l' r rb vr m where
  hq := hq'
  hr := h.hr.only x (by
    rintro (e | e)
    · exact h.ne e.symm
    · exact h.vq e) (fun g e => by
    rintro (e2 | e2)
    · exact h.rv (e2 ▸ e)
    · exact h.vv g e2 e)
  ne := h.ne
  vq := fun e => by
    rcases hv r e with e | e
    · exact h.vq e
    · have := h.hr.1; omega
  rv := h.rv
  vv := fun g e e2 => by
    rcases hv g e with e | e
    · exact h.vv g e e2
    · have := (h.hr.2.2.2.1.lt g e2).2; omega
  ex := h.hq.extOf h.ex h.b1 x
  b1 := h.b1
  b2 := h.b2
theorem QR.updR {w0 W w' : World} {full : Int} {q base : Nat} {v : Value} {l : List Hd} {r rb : Nat} {vr : Value} {m : List Hd} {v' : Value} {m' : List Hd} (h : QR w0 W full q base v l r rb vr m) (hr' : Rq w' r rb full v' m') (x : Only (tch r vr) W w') (hv : ∀ g, v'.ownBlock = some g → vr.ownBlock = some g ∨ W.heap.size ≤ g) : QR w0 w' full q base v l r rb v' m' where
  hq := h.hq.only x (by
    rintro (e | e)
    · exact h.ne e
    · exact h.rv e) (fun g e => by
    rintro (e2 | e2)
    · exact h.vq (e2 ▸ e)
    · exact h.vv g e e2)
  hr := hr'
  ne := h.ne
  vq := h.vq
  rv := fun e => by
    rcases hv q e with e | e
    · exact h.rv e
    · have := h.hq.1; omega
  vv := fun g e e2 => by
    rcases hv g e2 with e2 | e2
    · exact h.vv g e e2
    · have := (h.hq.2.2.2.1.lt g e).2; omega
  ex := h.hr.extOf h.ex h.b2 x
  b1 := h.b1
  b2 := h.b2
theorem plPutQ (w0 : World) (full : Int) (q base : Nat) (v : Value) (l : List Hd) (r rb : Nat) (vr : Value) (m : List Hd) (W : World) (h : QR w0 W full q base v l r rb vr m) (hg : goodL l) (hl : l.length ≤ 1000) (z : Hd) (hok : okQ l z = true) : Calls Try.prog 14 #[.pointer (some ⟨q, 0, none⟩), .agg #[.int .i64 z.at_, .int .i64 z.n, .int .i64 z.time]] W fun e w' => ∃ v', e = .returned (.bool true) ∧ Hid (QR w0 w' full q base v' (l ++ [z]) r rb vr m) ∧ Hid (Only (nwr w0) W w') := by
  refine (qputT q base full v l W h.hq hg hl z hok).mono ?_
  rintro e w' ⟨v', rfl, hq, ho, hv⟩
  exact ⟨v', rfl, hid (h.updQ hq.out ho hv), hid (h.nq ho)⟩
theorem plPutR (w0 : World) (full : Int) (q base : Nat) (v : Value) (l : List Hd) (r rb : Nat) (vr : Value) (m : List Hd) (W : World) (h : QR w0 W full q base v l r rb vr m) (hg : goodL m) (hl : m.length ≤ 1000) (z : Hd) (hok : okQ m z = true) : Calls Try.prog 15 #[.pointer (some ⟨r, 0, none⟩), .agg #[.int .i64 z.at_, .int .i64 z.n, .int .i64 z.time]] W fun e w' => ∃ v', e = .returned (.bool true) ∧ Hid (QR w0 w' full q base v l r rb v' (m ++ [z])) ∧ Hid (Only (nwr w0) W w') := by
  refine (rqputT r rb full vr m W h.hr hg hl z hok).mono ?_
  rintro e w' ⟨v', rfl, hq, ho, hv⟩
  exact ⟨v', rfl, hid (h.updR hq.out ho hv), hid (h.nr ho)⟩
theorem plNoQ (w0 : World) (full : Int) (q base : Nat) (v : Value) (l : List Hd) (r rb : Nat) (vr : Value) (m : List Hd) (W : World) (h : QR w0 W full q base v l r rb vr m) (hg : goodL l) (hl : l.length ≤ 1000) (z : Hd) (hok : okQ l z = false) : Calls Try.prog 14 #[.pointer (some ⟨q, 0, none⟩), .agg #[.int .i64 z.at_, .int .i64 z.n, .int .i64 z.time]] W fun e w' => e = .returned (.bool false) ∧ Hid (QR w0 w' full q base v l r rb vr m) ∧ Hid (Only (nwr w0) W w') := by
  refine (qput_no q base full (sumL l) v l W h.hq (by omega) z hok).mono ?_
  rintro e w' ⟨rfl, hx⟩
  exact ⟨rfl, hid (h.ext hx), hid (Only.ofExt hx)⟩
theorem plNoR (w0 : World) (full : Int) (q base : Nat) (v : Value) (l : List Hd) (r rb : Nat) (vr : Value) (m : List Hd) (W : World) (h : QR w0 W full q base v l r rb vr m) (hg : goodL m) (hl : m.length ≤ 1000) (z : Hd) (hok : okQ m z = false) : Calls Try.prog 15 #[.pointer (some ⟨r, 0, none⟩), .agg #[.int .i64 z.at_, .int .i64 z.n, .int .i64 z.time]] W fun e w' => e = .returned (.bool false) ∧ Hid (QR w0 w' full q base v l r rb vr m) ∧ Hid (Only (nwr w0) W w') := by
  refine (rqput_no r rb full vr m W h.hr (by omega) hg.times z hok).mono ?_
  rintro e w' ⟨rfl, hx⟩
  exact ⟨rfl, hid (h.ext hx), hid (Only.ofExt hx)⟩
theorem plDueQ (w0 : World) (full : Int) (q base : Nat) (v : Value) (l : List Hd) (r rb : Nat) (vr : Value) (m : List Hd) (W : World) (h : QR w0 W full q base v l r rb vr m) (hg : goodL l) (hl : l.length ≤ 1000) (now : Int) (tk rest : List Hd) (e1 : l.takeWhile (dueB now) = tk) (e2 : l.drop tk.length = rest) : Calls Try.prog 12 #[.pointer (some ⟨q, 0, none⟩), .int .i64 now] W fun e w' => ∃ A ca v', e = .returned (.slice A tk.length ca) ∧ Hid (QR w0 w' full q base v' rest r rb vr m) ∧ Hid (Only (nwr w0) W w') ∧ Hid (RdH w' A tk) ∧ Hid (∀ b o, A = some ⟨b, o, none⟩ → ¬ b = r) := by
  refine (qdueT q base full v l W h.hq hg hl now tk rest e1 e2).mono ?_
  rintro e w' ⟨A, ca, v', rfl, hq, hr, ho, hv, hf⟩
  exact ⟨A, ca, v', rfl, hid (h.updQ hq.out ho.tch (fun g e => .inl (hv g e))), hid (h.nq ho.tch), hid hr.out, hid (fun b o e e2 => by have := hf.out b o e; have := h.hr.1; omega)⟩
theorem plDueR (w0 : World) (full : Int) (q base : Nat) (v : Value) (l : List Hd) (r rb : Nat) (vr : Value) (m : List Hd) (W : World) (h : QR w0 W full q base v l r rb vr m) (hg : goodL m) (hl : m.length ≤ 1000) (now : Int) (tk rest : List Hd) (e1 : m.takeWhile (dueB now) = tk) (e2 : m.drop tk.length = rest) : Calls Try.prog 13 #[.pointer (some ⟨r, 0, none⟩), .int .i64 now] W fun e w' => ∃ A ca v', e = .returned (.slice A tk.length ca) ∧ Hid (QR w0 w' full q base v l r rb v' rest) ∧ Hid (Only (nwr w0) W w') ∧ Hid (RdH w' A tk) ∧ Hid (Only (fun i => i = r) W w') := by
  refine (rqdueT r rb full vr m W h.hr hg hl now tk rest e1 e2).mono ?_
  rintro e w' ⟨A, ca, v', rfl, hq, hr, ho, hv⟩
  exact ⟨A, ca, v', rfl, hid (h.updR hq.out ho.tch hv), hid (h.nr ho.tch), hid hr.out, hid ho⟩
theorem plBytesQ (w0 : World) (full : Int) (q base : Nat) (v : Value) (l : List Hd) (r rb : Nat) (vr : Value) (m : List Hd) (W : World) (h : QR w0 W full q base v l r rb vr m) : Calls Try.prog 16 #[.pointer (some ⟨q, 0, none⟩)] W fun e w' => e = .returned (.int .i64 (sumL l)) ∧ w' = W := by
  exact qbytes_ q base full _ v l W h.hq
theorem plManyQ (w0 : World) (full : Int) (q base : Nat) (v : Value) (l : List Hd) (r rb : Nat) (vr : Value) (m : List Hd) (W : World) (h : QR w0 W full q base v l r rb vr m) : Calls Try.prog 18 #[.pointer (some ⟨q, 0, none⟩)] W fun e w' => e = .returned (.int .i64 l.length) ∧ w' = W := by
  exact qmany_ q base full _ v l W h.hq
theorem plManyR (w0 : World) (full : Int) (q base : Nat) (v : Value) (l : List Hd) (r rb : Nat) (vr : Value) (m : List Hd) (W : World) (h : QR w0 W full q base v l r rb vr m) : Calls Try.prog 19 #[.pointer (some ⟨r, 0, none⟩)] W fun e w' => e = .returned (.int .i64 m.length) ∧ w' = W := by
  exact rqmany_ r rb full vr m W h.hr
theorem plBytesR (w0 : World) (full : Int) (q base : Nat) (v : Value) (l : List Hd) (r rb : Nat) (vr : Value) (m : List Hd) (W : World) (h : QR w0 W full q base v l r rb vr m) (hg : goodL m) (hl : m.length ≤ 1000) : Calls Try.prog 17 #[.pointer (some ⟨r, 0, none⟩)] W fun e w' => e = .returned (.int .i64 (sumL m)) ∧ Hid (QR w0 w' full q base v l r rb vr m) := by
  refine (rqbytes_ r rb full vr m W h.hr (by omega) hg.ns).mono ?_
  rintro e w' ⟨rfl, hx⟩
  exact ⟨by rw [sumK_all], hid (h.ext hx)⟩
theorem plFullQ (w0 : World) (full : Int) (q base : Nat) (v : Value) (l : List Hd) (r rb : Nat) (vr : Value) (m : List Hd) (W : World) (h : QR w0 W full q base v l r rb vr m) : Calls Try.prog 20 #[.pointer (some ⟨q, 0, none⟩)] W fun e w' => e = .returned (.bool (decide (full ≤ sumL l))) ∧ Hid (QR w0 w' full q base v l r rb vr m) := by
  refine (qfull_ q base full _ v l W h.hq).mono ?_
  rintro e w' ⟨rfl, hx⟩
  exact ⟨rfl, hid (h.ext hx)⟩
theorem plFullR (w0 : World) (full : Int) (q base : Nat) (v : Value) (l : List Hd) (r rb : Nat) (vr : Value) (m : List Hd) (W : World) (h : QR w0 W full q base v l r rb vr m) (hg : goodL m) (hl : m.length ≤ 1000) : Calls Try.prog 21 #[.pointer (some ⟨r, 0, none⟩)] W fun e w' => e = .returned (.bool (decide (full ≤ sumL m))) ∧ Hid (QR w0 w' full q base v l r rb vr m) := by
  refine (rqfull_ r rb full vr m W h.hr (by omega) hg.ns).mono ?_
  rintro e w' ⟨rfl, hx⟩
  exact ⟨by rw [sumK_all], hid (h.ext hx)⟩
theorem plAllQ (w0 : World) (full : Int) (q base : Nat) (v : Value) (l : List Hd) (r rb : Nat) (vr : Value) (m : List Hd) (W : World) (h : QR w0 W full q base v l r rb vr m) (hg : goodL l) (hl : l.length ≤ 1000) : Calls Try.prog 22 #[.pointer (some ⟨q, 0, none⟩)] W fun e w' => ∃ A ca, e = .returned (.slice A l.length ca) ∧ Hid (RdH w' A l) ∧ Hid (QR w0 w' full q base v l r rb vr m) := by
  refine (qallT q base full v l W h.hq hg hl).mono ?_
  rintro e w' ⟨A, ca, rfl, hr, hx⟩
  exact ⟨A, ca, rfl, hid hr.out, hid (h.ext hx)⟩
theorem plAllR (w0 : World) (full : Int) (q base : Nat) (v : Value) (l : List Hd) (r rb : Nat) (vr : Value) (m : List Hd) (W : World) (h : QR w0 W full q base v l r rb vr m) (hg : goodL m) (hl : m.length ≤ 1000) : Calls Try.prog 23 #[.pointer (some ⟨r, 0, none⟩)] W fun e w' => ∃ A ca, e = .returned (.slice A m.length ca) ∧ Hid (RdH w' A m) ∧ Hid (QR w0 w' full q base v l r rb vr m) ∧ Hid (Ext W w') := by
  refine (rqallT r rb full vr m W h.hr hg hl).mono ?_
  rintro e w' ⟨A, ca, rfl, hr, hx⟩
  exact ⟨A, ca, rfl, hid hr.out, hid (h.ext hx), hid hx⟩
theorem quiet_index {P : Program} {o : Oper} {a : Act} {C : World → Prop} {K : Act → Prop} (t : TypeId) (x i : Operand) (ho : o.op = .indexAddr t x i) (ad : Addr) (len cap k s : Nat) (hx : a.eval x = .slice (some ad) len cap) (hi : a.eval i = .int .i64 k) (hk : k < len)
    (hu : P.underlying t = some (.slice (P.elem t))) (hs : ∀ w, (sizeOf (P.elem t)).run P w = .ok s w) (k1 : K (a.put o.dst (.pointer (some (ad.add (k * s)))))) : o.quiet P a C K :=
  quiet_run _ (fun w => by
    unfold execOp
    rw [ho]
    simp only [hx, hi, Sem.run_map, Sem.run_bind, Sem.run_pure, Go.run_indexAt_slice w t ad len cap .i64 k hu, if_pos (show (0 : Int) ≤ (k : Int) ∧ (k : Int) < (len : Int) by omega), hs, Result.andThen, Int.toNat_natCast]) k1

end Go.Proofs.Ytlbemgkdpagoiaa
