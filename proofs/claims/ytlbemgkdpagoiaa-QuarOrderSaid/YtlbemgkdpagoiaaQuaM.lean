/- Layer 13: the live question. -/
import Derived.Test.YtlbemgkdpagoiaaQuaK
import Derived.Test.YtlbemgkdpagoiaaQuaL
import Derived.Laws.BitsLemmas
namespace Go.Proofs.Ytlbemgkdpagoiaa
set_option linter.unusedSimpArgs false
set_option linter.unusedVariables false
open Go.RowKit

/-- All is in its bounds. -/
def goodL (l : List Hd) : Prop := ∀ x ∈ l, (0 ≤ x.n ∧ x.n ≤ 16777216) ∧ (0 ≤ x.time ∧ x.time ≤ 2199023255552)
def sumL (l : List Hd) : Int := (l.map Hd.n).sum
theorem sumL_cons (x : Hd) (l : List Hd) : sumL (x :: l) = x.n + sumL l := by simp [sumL]
theorem sumL_append (l m : List Hd) : sumL (l ++ m) = sumL l + sumL m := by
  induction l with
  | nil => simp [sumL]
  | cons x l ih => rw [List.cons_append, sumL_cons, sumL_cons, ih]; omega
theorem sumL_one (l : List Hd) (z : Hd) : sumL (l ++ [z]) = sumL l + z.n := by rw [sumL_append]; simp [sumL]
theorem sumK_all (l : List Hd) : sumK l l.length = sumL l := by unfold sumK sumL; rw [List.take_length]
theorem goodL.nil : goodL [] := fun x h => by cases h
theorem goodL.tail {x : Hd} {l : List Hd} (h : goodL (x :: l)) : goodL l := fun y hy => h y (List.mem_cons_of_mem _ hy)
theorem goodL.drop {l : List Hd} (h : goodL l) (k : Nat) : goodL (l.drop k) := fun y hy => h y (List.mem_of_mem_drop hy)
theorem goodL.times {l : List Hd} (h : goodL l) : ∀ x ∈ l, 0 ≤ x.time ∧ x.time ≤ 2199023255552 := fun x hx => (h x hx).2
theorem goodL.ns {l : List Hd} (h : goodL l) : ∀ x ∈ l, 0 ≤ x.n ∧ x.n ≤ 16777216 := fun x hx => (h x hx).1
theorem sumL_bound {l : List Hd} (h : goodL l) : 0 ≤ sumL l ∧ sumL l ≤ 16777216 * (l.length : Int) := by
  induction l with
  | nil => simp [sumL]
  | cons x l ih =>
    have h1 := ih h.tail
    have h2 := (h x List.mem_cons_self).1
    rw [sumL_cons, List.length_cons]
    omega
theorem goodL.put {l : List Hd} {z : Hd} (h : goodL l) (ok : okQ l z = true) : goodL (l ++ [z]) := by
  have hn := lastT_nn h.times
  unfold okQ at ok
  obtain ⟨⟨⟨⟨_, _⟩, h3, h4⟩, h5⟩, h6⟩ : (((0 ≤ z.at_ ∧ z.at_ ≤ 16777216) ∧ (0 ≤ z.n ∧ z.n ≤ 16777216)) ∧ ¬ z.time < lastT l) ∧ ¬ (2199023255552 : Int) < z.time := by
    simpa only [Bool.and_eq_true, Bool.not_eq_true', decide_eq_false_iff_not, decide_eq_true_eq] using ok
  intro x hx
  rcases List.mem_append.1 hx with hx | hx
  · exact h x hx
  · obtain rfl : x = z := by simpa using hx
    exact ⟨⟨h3, h4⟩, by omega, by omega⟩
theorem okQ_time {l : List Hd} {z : Hd} (h : goodL l) (ok : okQ l z = true) : 0 ≤ z.time := ((h.put ok) z (by simp)).2.1
theorem okQ_n {l : List Hd} {z : Hd} (h : goodL l) (ok : okQ l z = true) : 0 ≤ z.n ∧ z.n ≤ 16777216 := ((h.put ok) z (by simp)).1
theorem bytesF_sum : ∀ (tk rest : List Hd), goodL (tk ++ rest) → (tk ++ rest).length ≤ 1000 → bytesF (sumL (tk ++ rest)) tk = sumL rest
  | [], rest, _, _ => rfl
  | x :: tk, rest, hg, hl => by
    have hg' : goodL (tk ++ rest) := hg.tail
    have hb := sumL_bound hg'
    have hl' : (tk ++ rest).length ≤ 1000 := by simp at hl ⊢; omega
    have e : IntKind.i64.wrap (sumL (x :: tk ++ rest) - x.n) = sumL (tk ++ rest) := by
      rw [List.cons_append, sumL_cons, show x.n + sumL (tk ++ rest) - x.n = sumL (tk ++ rest) by omega]
      rw [IntKind.wrap_i64]
      omega
    show bytesF (IntKind.i64.wrap (sumL (x :: tk ++ rest) - x.n)) tk = sumL rest
    rw [e]
    exact bytesF_sum tk rest hg' hl'
theorem Qs.extOf {w0 w w' : World} {q base : Nat} {full bytes : Int} {v : Value} {l : List Hd} (h : Qs w q base full bytes v l) (hE : Ext w0 w) (hb : w0.heap.size ≤ base) (ho : Only (tch q v) w w') : Ext w0 w' :=
  Ext.only hE ho (by
    rintro i (rfl | h')
    · exact Nat.le_trans hb h.2.2.2.2.1
    · exact Nat.le_trans hb (h.2.2.2.1.lt i h').1)
theorem Rq.extOf {w0 w w' : World} {q base : Nat} {full : Int} {v : Value} {l : List Hd} (h : Rq w q base full v l) (hE : Ext w0 w) (hb : w0.heap.size ≤ base) (ho : Only (tch q v) w w') : Ext w0 w' :=
  Ext.only hE ho (by
    rintro i (rfl | h')
    · exact Nat.le_trans hb h.2.2.2.2.1
    · exact Nat.le_trans hb (h.2.2.2.1.lt i h').1)
theorem Only.mono {S T : Nat → Prop} {w w' : World} (h : Only S w w') (hst : ∀ i, S i → T i) : Only T w w' := ⟨h.os, h.tape, h.output, h.size, fun k hk hn => h.block k hk fun hs => hn (hst k hs)⟩
theorem Only.tch {q : Nat} {v : Value} {w w' : World} (h : Only (· = q) w w') : Only (tch q v) w w' := h.mono fun _ e => .inl e
theorem RdH.only {S : Nat → Prop} {w w' : World} {A : Option Addr} {l : List Hd} (h : RdH w A l) (x : Only S w w') (hn : ∀ b o, A = some ⟨b, o, none⟩ → ¬ S b) : RdH w' A l := fun h0 => by
  obtain ⟨b, o, e, hb, hc⟩ := h h0
  exact ⟨b, o, e, Nat.lt_of_lt_of_le hb x.size, fun j u hj => (x.cells b _ hb (hn b o e)).trans (hc j u hj)⟩
theorem RdH.new (w : World) (z : Hd) (T : TypeId) : RdH (w.alloc (.cells #[.int .i64 z.at_, .int .i64 z.n, .int .i64 z.time] T)) (some ⟨w.heap.size, 0, none⟩) [z] := fun _ =>
  ⟨w.heap.size, 0, rfl, by simp, fun j u hj => (Row.new w #[.int .i64 z.at_, .int .i64 z.n, .int .i64 z.time] T).at_ j u (by rw [hdList_one] at hj; exact hj)⟩
theorem wrapN {x : Int} (h0 : 0 ≤ x) (h1 : x ≤ 99999999999) : wrap64 x = x := by simp [wrap64]; omega
theorem qputT (q base : Nat) (full : Int) (v : Value) (l : List Hd) (w : World) (h : Qs w q base full (sumL l) v l) (hg : goodL l) (hl : l.length ≤ 1000) (z : Hd) (hok : okQ l z = true) : Calls Try.prog 14 #[.pointer (some ⟨q, 0, none⟩), .agg #[.int .i64 z.at_, .int .i64 z.n, .int .i64 z.time]] w fun e w' => ∃ v', e = .returned (.bool true) ∧ Hid (Qs w' q base full (sumL (l ++ [z])) v' (l ++ [z])) ∧ Only (tch q v) w w' ∧ (∀ g, v'.ownBlock = some g → v.ownBlock = some g ∨ w.heap.size ≤ g) := by
  have hb := sumL_bound hg
  have hn := okQ_n hg hok
  refine (qput_ q base full (sumL l) v l w h (by omega) z hok (wrapN (by omega) (by omega))).mono ?_
  rintro e w' ⟨v', rfl, hq, ho, hv⟩
  exact ⟨v', rfl, hid (by rw [sumL_one]; exact hq), ho, hv⟩
theorem rqputT (q base : Nat) (full : Int) (v : Value) (l : List Hd) (w : World) (h : Rq w q base full v l) (hg : goodL l) (hl : l.length ≤ 1000) (z : Hd) (hok : okQ l z = true) : Calls Try.prog 15 #[.pointer (some ⟨q, 0, none⟩), .agg #[.int .i64 z.at_, .int .i64 z.n, .int .i64 z.time]] w fun e w' => ∃ v', e = .returned (.bool true) ∧ Hid (Rq w' q base full v' (l ++ [z])) ∧ Only (tch q v) w w' ∧ (∀ g, v'.ownBlock = some g → v.ownBlock = some g ∨ w.heap.size ≤ g) := by
  refine (rqput_ q base full v l w h (by omega) z hok (okQ_time hg hok)).mono ?_
  rintro e w' ⟨v', rfl, hq, ho, hv⟩
  exact ⟨v', rfl, hid hq, ho, hv⟩
theorem tw_end0 {α : Type} (p : α → Bool) : ∀ l : List α, l.take (l.takeWhile p).length = l.takeWhile p
  | [] => by simp
  | x :: l => by
    cases hx : p x with
    | false => simp [List.takeWhile, hx]
    | true => simp only [List.takeWhile, hx, List.length_cons, List.take_succ_cons, tw_end0 p l]
theorem qdueT (q base : Nat) (full : Int) (v : Value) (l : List Hd) (w : World) (h : Qs w q base full (sumL l) v l) (hg : goodL l) (hl : l.length ≤ 1000) (now : Int) (tk rest : List Hd) (e1 : l.takeWhile (dueB now) = tk) (e2 : l.drop tk.length = rest) : Calls Try.prog 12 #[.pointer (some ⟨q, 0, none⟩), .int .i64 now] w fun e w' => ∃ A ca v', e = .returned (.slice A tk.length ca) ∧ Hid (Qs w' q base full (sumL rest) v' rest) ∧ Hid (RdH w' A tk) ∧ Only (fun i => i = q) w w' ∧ (∀ g, v'.ownBlock = some g → v.ownBlock = some g) ∧ Hid (∀ b o, A = some ⟨b, o, none⟩ → w.heap.size ≤ b) := by
  subst e1
  refine (qdue_ q base full (sumL l) v l w h now (by omega) hg.times).mono ?_
  rintro e w' ⟨vr, v', rfl, hq, ho, hx, hv⟩
  obtain ⟨A, ca, rfl, _, _⟩ := ho.shape
  have hsp : l.takeWhile (dueB now) ++ l.drop (l.takeWhile (dueB now)).length = l := by
    conv => rhs; rw [← List.take_append_drop (l.takeWhile (dueB now)).length l]
    rw [tw_end0]
  rw [e2] at hq hsp
  have hs := bytesF_sum (l.takeWhile (dueB now)) rest (by rw [hsp]; exact hg) (by rw [hsp]; exact hl)
  rw [hsp] at hs
  rw [hs] at hq
  exact ⟨A, ca, v', rfl, hid hq, hid (ho.rdH rfl), hx, fun g hg => hv ▸ hg, hid (fun b o e => (ho.lt b (by rw [e]; rfl)).1)⟩
theorem rqdueT (q base : Nat) (full : Int) (v : Value) (l : List Hd) (w : World) (h : Rq w q base full v l) (hg : goodL l) (hl : l.length ≤ 1000) (now : Int) (tk rest : List Hd) (e1 : l.takeWhile (dueB now) = tk) (e2 : l.drop tk.length = rest) : Calls Try.prog 13 #[.pointer (some ⟨q, 0, none⟩), .int .i64 now] w fun e w' => ∃ A ca v', e = .returned (.slice A tk.length ca) ∧ Hid (Rq w' q base full v' rest) ∧ Hid (RdH w' A tk) ∧ Only (fun i => i = q) w w' ∧ (∀ g, v'.ownBlock = some g → v.ownBlock = some g ∨ w.heap.size ≤ g) := by
  subst e1
  refine (rqdue_ q base full v l w h now (by omega) hg.times).mono ?_
  rintro e w' ⟨vr, v', rfl, hq, ho, hx, hv⟩
  obtain ⟨A, ca, rfl, _, _⟩ := ho.shape
  rw [e2] at hq
  exact ⟨A, ca, v', rfl, hid hq, hid (ho.rdH rfl), hx, hv⟩
theorem qallT (q base : Nat) (full : Int) (v : Value) (l : List Hd) (w : World) (h : Qs w q base full (sumL l) v l) (hg : goodL l) (hl : l.length ≤ 1000) : Calls Try.prog 22 #[.pointer (some ⟨q, 0, none⟩)] w fun e w' => ∃ A ca, e = .returned (.slice A l.length ca) ∧ Hid (RdH w' A l) ∧ Ext w w' := by
  refine (qall_ q base full (sumL l) v l w h (by omega)).mono ?_
  rintro e w' ⟨v', rfl, ho, hx⟩
  have ho := ownsAt_of ho.out
  obtain ⟨A, ca, rfl, _, _⟩ := ho.shape
  exact ⟨A, ca, rfl, hid (ho.rdH rfl), hx⟩
theorem rqallT (q base : Nat) (full : Int) (v : Value) (l : List Hd) (w : World) (h : Rq w q base full v l) (hg : goodL l) (hl : l.length ≤ 1000) : Calls Try.prog 23 #[.pointer (some ⟨q, 0, none⟩)] w fun e w' => ∃ A ca, e = .returned (.slice A l.length ca) ∧ Hid (RdH w' A l) ∧ Ext w w' := by
  refine (rqall_ q base full v l w h (by omega)).mono ?_
  rintro e w' ⟨v', rfl, ho, hx⟩
  have ho := ownsAt_of ho.out
  obtain ⟨A, ca, rfl, _, _⟩ := ho.shape
  exact ⟨A, ca, rfl, hid (ho.rdH rfl), hx⟩
set_option maxRecDepth 100000 in
set_option maxHeartbeats 4000000 in
theorem head_ (w : World) : Calls Try.prog 8 #[] w fun e w' => e = .returned (.bool true) ∧ Ext w w' := by
  have g0 : goodL [(Hd.mk 16 32 2)] := goodL.nil.put (by decide)
  have g1 : goodL [(Hd.mk 16 32 2), (Hd.mk 64 16 3)] := g0.put (by decide)
  have g2 : goodL [(Hd.mk 64 16 3)] := g1.tail
  go_enter Try.func8, Try.ntmps8
  go_upto_region 2 with (go_at_call 9; with_reducible refine (qnew_ 48 _ (by decide) (by decide)).mono ?_; rintro e w1 ⟨q, rfl, hq1, hx1, HQ1⟩)
  have hxw1 : Hid (Ext w w1) := hid hx1
  have hwb : w.heap.size ≤ w.heap.size := Nat.le_refl _
  generalize hbase : w.heap.size = base at HQ1 hq1 hwb
  replace HQ1 : Hid (Qs w1 q base 48 (sumL []) (.slice none 0 0) []) := hid HQ1
  clear hx1
  go_upto_region 5 with (first | (go_at_call 9; with_reducible refine (qnew_no 0 _ (by decide)).mono ?_; rintro e w2 ⟨rfl, rfl⟩) | (go_at_call 14; refine (qputT q base 48 _ [] _ HQ1.out goodL.nil (by decide) (Hd.mk 16 32 2) (by decide)).mono ?_; rintro e w2 ⟨v2, rfl, HQ2, ho2, _⟩))
  have hxw2 := hid (HQ1.out.extOf hxw1.out (Nat.le_of_eq hbase) ho2)
  clear HQ1 hxw1 ho2
  go_upto_region 6 with (go_at_call 14; refine (qputT q base 48 _ [(Hd.mk 16 32 2)] _ HQ2.out g0 (by decide) (Hd.mk 64 16 3) (by decide)).mono ?_; rintro e w3 ⟨v3, rfl, HQ3, ho3, _⟩)
  have hxw3 := hid (HQ2.out.extOf hxw2.out (Nat.le_of_eq hbase) ho3)
  clear HQ2 hxw2 ho3
  replace HQ3 : Hid (Qs w3 q base 48 (sumL [(Hd.mk 16 32 2), (Hd.mk 64 16 3)]) v3 [(Hd.mk 16 32 2), (Hd.mk 64 16 3)]) := hid HQ3.out
  go_upto_region 7 with (go_at_call 14; refine (qput_no q base 48 _ _ [(Hd.mk 16 32 2), (Hd.mk 64 16 3)] _ HQ3.out (by decide) (Hd.mk 96 16 2) (by decide)).mono ?_; rintro e w4 ⟨rfl, hx4⟩)
  have hxw4 := hid (hxw3.out.trans hx4)
  have HB4 : Hid (Qs w4 q base 48 48 v3 [(Hd.mk 16 32 2), (Hd.mk 64 16 3)]) := hid (by have := HQ3.out.ext hx4; rwa [show sumL [(Hd.mk 16 32 2), (Hd.mk 64 16 3)] = 48 from by decide] at this)
  clear HQ3 hxw3 hx4
  go_upto_region 8 with (go_at_call 20; refine (qfull_ q base 48 48 _ _ _ HB4.out).mono ?_; rintro e w5 ⟨rfl, hx5⟩)
  have HQ5 : Hid (Qs w5 q base 48 (sumL [(Hd.mk 16 32 2), (Hd.mk 64 16 3)]) v3 [(Hd.mk 16 32 2), (Hd.mk 64 16 3)]) := hid (by rw [show sumL [(Hd.mk 16 32 2), (Hd.mk 64 16 3)] = 48 from by decide]; exact HB4.out.ext hx5)
  have hxw5 := hid (hxw4.out.trans hx5)
  clear HB4 hxw4 hx5
  go_upto_region 9 with (go_at_call 12; refine (qdueT q base 48 _ [(Hd.mk 16 32 2), (Hd.mk 64 16 3)] _ HQ5.out g1 (by decide) 4 [(Hd.mk 16 32 2)] [(Hd.mk 64 16 3)] (by rfl) (by rfl)).mono ?_; rintro e w6 ⟨A6, c6, v6, rfl, HQ6, HR6, ho6, _, hf6⟩)
  have hxw6 := hid (HQ5.out.extOf hxw5.out (Nat.le_of_eq hbase) ho6.tch)
  have hq5 := HQ5.out.1
  clear HQ5 hxw5 ho6
  go_upto_region 10 with (go_at_call 12; refine (qdueT q base 48 _ [(Hd.mk 64 16 3)] _ HQ6.out g2 (by decide) 5 [] [(Hd.mk 64 16 3)] (by rfl) (by rfl)).mono ?_; rintro e w7 ⟨A7, c7, v7, rfl, HQ7, _, ho7, _, _⟩)
  have hxw7 := hid (HQ6.out.extOf hxw6.out (Nat.le_of_eq hbase) ho7.tch)
  have HR7 := hid (HR6.out.only ho7 (fun b o e => by have := hf6.out b o e; omega))
  have HB7 : Hid (Qs w7 q base 48 16 v7 [(Hd.mk 64 16 3)]) := hid (by have := HQ7.out; rwa [show sumL [(Hd.mk 64 16 3)] = 16 from by decide] at this)
  clear HQ6 HQ7 hxw6 ho7 HR6 hf6 hq5
  go_wp2_with (first | (go_at_call 11; refine (hsame_ A6 _ 1 c6 1 [(Hd.mk 16 32 2)] _ rfl (HR7.out.ext (Ext.alloc (Ext.refl _) _)) (RdH.new w7 (Hd.mk 16 32 2) _) (by decide)).mono ?_; rintro e w8 ⟨rfl, hx8⟩; have HB8 := hid (HB7.out.ext ((Ext.alloc (Ext.refl _) _).trans hx8)); have hxw8 := hid (hxw7.out.trans ((Ext.alloc (Ext.refl _) _).trans hx8))) | (go_at_call 16; with_reducible refine (qbytes_ q base 48 16 _ _ _ HB8.out).mono ?_; rintro e w9 ⟨rfl, rfl⟩) | (go_at_call 18; with_reducible refine (qmany_ q base 48 16 _ [(Hd.mk 64 16 3)] _ HB8.out).mono ?_; rintro e w9 ⟨rfl, rfl⟩) | (go_at_call 20; with_reducible refine (qfull_ q base 48 16 _ _ _ HB8.out).mono ?_; rintro e w10 ⟨rfl, hx10⟩; have HQ10 : Hid (Qs w10 q base 48 (sumL [(Hd.mk 64 16 3)]) _ [(Hd.mk 64 16 3)]) := hid (by rw [show sumL [(Hd.mk 64 16 3)] = 16 from by decide]; exact HB8.out.ext hx10); have hxw10 := hid (hxw8.out.trans hx10)) | (go_at_call 12; refine (qdueT q base 48 _ [(Hd.mk 64 16 3)] _ HQ10.out g2 (by decide) 6 [(Hd.mk 64 16 3)] [] (by rfl) (by rfl)).mono ?_; rintro e w11 ⟨A11, c11, v11, rfl, HQ11, _, ho11, _, _⟩; have hxw11 := hid (HQ10.out.extOf hxw10.out (Nat.le_of_eq hbase) ho11.tch); have HB11 : Hid (Qs w11 q base 48 0 _ []) := HQ11) | (go_at_call 16; with_reducible refine (qbytes_ q base 48 0 _ _ _ HB11.out).mono ?_; rintro e w9 ⟨rfl, rfl⟩))
  go_ret
  exact ⟨rfl, hxw11.out⟩

end Go.Proofs.Ytlbemgkdpagoiaa
