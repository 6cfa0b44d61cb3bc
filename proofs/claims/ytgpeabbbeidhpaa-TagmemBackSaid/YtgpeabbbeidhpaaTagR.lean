/- Layer 7: LoadCap on the bundle; own rows of bytes. -/
import Derived.Test.YtgpeabbbeidhpaaTagQ
namespace Go.Proofs.Ytgpeabbbeidhpaa
set_option linter.unusedSimpArgs false
set_option linter.unusedVariables false
open Go.RowKit

theorem OwnB.new (w : World) (base : Nat) (l : List Int) (n : Nat) (hn : l.length = n) (hl : n ≤ maxLen) (hb : base ≤ w.heap.size) : OwnB (w.alloc (.cells (bvals l).toArray 5)) base (.slice (some ⟨w.heap.size, 0, none⟩) n n) l := by
  subst hn
  refine ⟨by simp [bvals], .inr ⟨w.heap.size, l.length, (bvals l).toArray, rfl, hb, heap_alloc_new w _, Nat.le_refl _, hl, by simp [bvals], by simp [bvals, List.take_of_length_le]⟩⟩
theorem right_bd {t : Bool} {b tp a p ty : Int} (h : rightC ⟨t, b, tp, a, p, ty⟩ = true) : (0 ≤ b ∧ b ≤ 4294967295) ∧ (0 ≤ tp ∧ tp ≤ 4294967295) ∧ (0 ≤ a ∧ a ≤ 4294967295) ∧ (0 ≤ p ∧ p ≤ 127) ∧ (0 ≤ ty ∧ ty ≤ 255) := by
  simp [rightC, rightB, holdsB] at h
  omega
theorem bytesC_list (t : Bool) (b tp a p ty : Int) : bytesC ⟨t, b, tp, a, p, ty⟩ = [a / 16777216 % 256, a / 65536 % 256, a / 256 % 256, a % 256, b / 16777216 % 256, b / 65536 % 256, b / 256 % 256, b % 256, tp / 16777216 % 256, tp / 65536 % 256, tp / 256 % 256, tp % 256, 0, p % 256, 0, ty % 256] := rfl
theorem num4_four {n : Int} (h : 0 ≤ n ∧ n ≤ 4294967295) : num4 (n / 16777216 % 256) (n / 65536 % 256) (n / 256 % 256) (n % 256) = n := by unfold num4; omega
theorem getL_bytes {t : Bool} {b tp a p ty : Int} (h : rightC ⟨t, b, tp, a, p, ty⟩ = true) (tag : Bool) : getL (bytesC ⟨t, b, tp, a, p, ty⟩) tag = ⟨tag && rightC ⟨true, b, tp, a, p, ty⟩, b, tp, a, p, ty⟩ := by
  obtain ⟨hb, htp, ha, hp, hty⟩ := right_bd h
  have e1 : bareC (bytesC ⟨t, b, tp, a, p, ty⟩) = ⟨false, b, tp, a, p, ty⟩ := by
    rw [bytesC_list, bare_cap, num4_four hb, num4_four htp, num4_four ha]
    rw [show p % 256 % 128 = p by omega, show ty % 256 = ty by omega]
  have e2 : wholeL (bytesC ⟨t, b, tp, a, p, ty⟩) = true := by
    rw [bytesC_list]
    show (decide ((0 : Int) = 0) && decide ((0 : Int) = 0) && decide (p % 256 ≤ 127)) = true
    simp
    omega
  unfold getL tagOf
  rw [e1, e2]
  simp
section
variable {w : World} {ops : Array Oper} {rest : List Oper} {o : Oper} {a : Act} {Q : Exit → Act → World → Prop}
theorem app_own_wp {K : Act → World → Prop} (s x : Operand) (ho : o.op = .call { callee := .builtin .append, args := #[s, x], argTypes := #[29, 29] })
    (base : Nat) (v : Value) (l : List Int) (hs : a.eval s = v) (hown : OwnB w base v l) (A : Option Addr) (m c : Nat) (news : List Int) (hx : a.eval x = .slice A m c) (hm : news.length = m) (hr : RdB w A news)
    (h0 : A = none → c = 0) (h63 : l.length + m ≤ 1000000) (hbase : base ≤ w.heap.size)
    (h : ∀ v' w', OwnB w' base v' (l ++ news) → w.grownBy w' v.ownBlock → K (a.put o.dst v') w') : o.wp Try.prog a w K Q := by
  obtain ⟨i, hi, hz0, hz1, hz2⟩ := info_parts info_u8
  subst hm
  cases A with
  | none =>
    have hn : news = [] := by
      rcases Nat.eq_zero_or_pos news.length with h1 | h1
      · exact List.eq_nil_of_length_eq_zero h1
      · obtain ⟨b, o', hA, _⟩ := hr h1
        cases hA
    subst hn
    obtain rfl := h0 rfl
    have hrun := run_append_owned_none (P := Try.prog) w base 29 o.type 5 i 1 Try.underlying29 hi v l.length (bvals l) hown
    unfold Oper.wp
    simp [execOp, ho, resolve, invoke, builtin, hs, hx, hrun, Result.andThen]
    exact h v w (by simpa using hown) (World.grownBy.refl _ _)
  | some ad =>
    refine wp_append_own w s x 29 ho base 5 i _ 1 1 Try.underlying29 hi hz0 hz1 hz2 rfl (by decide) v l.length (bvals l) hs hown ad news.length c (bvals news) hx (by simp [bvals_length]) (fun j u hj => ?_) (bvals_one news) (by unfold maxLen; omega) (by omega) hbase fun v' w' h2 h3 _ => h v' w' (OwnB.more h2) h3
    have hlt : j < news.length := by simpa [bvals] using (List.getElem?_eq_some_iff.1 hj).1
    obtain ⟨b, o', hA, _, hc⟩ := hr (by omega)
    cases hA
    rw [Addr.add_lit, hc j hlt]
    simpa [bvals, hlt] using hj
theorem app_own (hgd : o.guard = none) (s x : Operand) (ho : o.op = .call { callee := .builtin .append, args := #[s, x], argTypes := #[29, 29] })
    (base : Nat) (v : Value) (l : List Int) (hs : a.eval s = v) (hown : OwnB w base v l) (A : Option Addr) (m c : Nat) (news : List Int) (hx : a.eval x = .slice A m c) (hm : news.length = m) (hr : RdB w A news)
    (h0 : A = none → c = 0) (h63 : l.length + m ≤ 1000000) (hbase : base ≤ w.heap.size)
    (h : ∀ v' w', OwnB w' base v' (l ++ news) → w.grownBy w' v.ownBlock → wpList Try.prog ops Q rest (a.put o.dst v') w') : wpList Try.prog ops Q (o :: rest) a w :=
  wpList_plain hgd fun K hK => app_own_wp s x ho base v l hs hown A m c news hx hm hr h0 h63 hbase fun v' w' h1 h2 => hK _ _ (h v' w' h1 h2)
end
theorem hLcAny (w W : World) (q g n : Nat) (B : Nat → Int) (T D : Nat → Bool) (h : HM w W q g n B T D) (x : Int) (hs : placeP n x) : Calls Try.prog 20 #[.pointer (some ⟨q, 0, none⟩), .int .i64 x] W fun e W' => ∃ c : Cap, e = .returned (.tuple #[.agg #[.bool (c).tag, .int .i64 (c).base, .int .i64 (c).top, .int .i64 (c).at_, .int .i64 (c).perms, .int .i64 (c).type], .bool true]) ∧ Hid (HM w W' q g n B T D) ∧ Hid (Ext W W') := by
  obtain ⟨p, i, hp, hi, hx⟩ := placeP_parts hs
  refine (tlc_yes q g n B T D W h.1 x p i hp hi hx).mono ?_
  rintro e W' ⟨rfl, hx⟩
  exact ⟨_, rfl, hid (h.ext hx), hid hx⟩
theorem hLcOf (w W : World) (q g n : Nat) (B : Nat → Int) (T D : Nat → Bool) (h : HM w W q g n B T D) (x : Int) (p i : Nat) (hp : p < n) (hi : i < 16) (hx : x = 256 * (p : Int) + 16 * (i : Int)) (c : Cap) (hc : getL (bytesAt B (256 * p + 16 * i) 16) (T (16 * p + i)) = c) : Calls Try.prog 20 #[.pointer (some ⟨q, 0, none⟩), .int .i64 x] W fun e W' => e = .returned (.tuple #[.agg #[.bool (c).tag, .int .i64 (c).base, .int .i64 (c).top, .int .i64 (c).at_, .int .i64 (c).perms, .int .i64 (c).type], .bool true]) ∧ Hid (HM w W' q g n B T D) ∧ Hid (Ext W W') := by
  refine (tlc_yes q g n B T D W h.1 x p i hp hi hx).mono ?_
  rw [hc]
  rintro e W' ⟨rfl, hx⟩
  exact ⟨rfl, hid (h.ext hx), hid hx⟩
theorem bytesAt_ext {B B' : Nat → Int} {a m : Nat} (h : ∀ j, j < m → B (a + j) = B' (a + j)) : bytesAt B a m = bytesAt B' a m := by
  unfold bytesAt
  exact List.map_congr_left fun j hj => h j (List.mem_range.1 hj)
theorem bytesAt_put {B : Nat → Int} {a : Nat} {l : List Int} {m : Nat} (hm : l.length = m) : bytesAt (putB B a l) a m = l := by
  subst hm
  apply List.ext_getElem
  · rw [bytesAt_length]
  · intro j h1 h2
    rw [bytesAt_get]
    unfold putB
    rw [if_pos (by omega), List.getD_eq_getElem?_getD, show a + j - a = j by omega, List.getElem?_eq_getElem h2]
    rfl
/-- What a capability's bytes, where they were laid, tell. -/
theorem getL_put {B : Nat → Int} {T : Nat → Bool} {a k : Nat} {t : Bool} {b tp at_ pm ty : Int} (hr : rightC ⟨t, b, tp, at_, pm, ty⟩ = true) : getL (bytesAt (putB B a (bytesC ⟨t, b, tp, at_, pm, ty⟩)) a 16) (upd1 T k t k) = ⟨t, b, tp, at_, pm, ty⟩ := by
  rw [bytesAt_put (bytesC_length _), upd1_self, getL_bytes hr]
  cases t with
  | false => rfl
  | true => rw [hr]; rfl
/-- An own row of bytes. -/
structure OwnD (w : World) (h : Nat) (l : List Int) : Prop where
  lt : h < w.heap.size
  free : ∀ x, w.frozen? ⟨h, x, none⟩ = false
  at_ : ∀ j (hj : j < l.length), w.cell? ⟨h, j, none⟩ = some (.int .u8 l[j])
theorem OwnD.only {S : Nat → Prop} {w w' : World} {h : Nat} {l : List Int} (k : OwnD w h l) (x : Only S w w') (hs : ¬ S h) : OwnD w' h l :=
  ⟨Nat.lt_of_lt_of_le k.lt x.size, fun y => (x.frozens h _ k.lt hs).trans (k.free y), fun j hj => (x.cells h _ k.lt hs).trans (k.at_ j hj)⟩
theorem OwnD.ext {w w' : World} {h : Nat} {l : List Int} (k : OwnD w h l) (x : Ext w w') : OwnD w' h l := k.only (Only.ofExt (S := fun _ => False) x) id
theorem OwnD.rd {w : World} {h : Nat} {l : List Int} (k : OwnD w h l) : RdB w (some ⟨h, 0, none⟩) l := fun _ => ⟨h, 0, rfl, k.lt, fun j hj => by rw [Nat.zero_add]; exact k.at_ j hj⟩
theorem OwnD.set {w : World} {h : Nat} {l : List Int} (k : OwnD w h l) (i : Nat) (hi : i < l.length) (v : Int) : OwnD (w.setCell ⟨h, i, none⟩ (.int .u8 v)) h (l.set i v) := by
  refine ⟨by rw [World.size_setCell]; exact k.lt, fun y => by rw [World.frozen?_setCell]; exact k.free y, fun j hj => ?_⟩
  have hj' : j < l.length := by rwa [List.length_set] at hj
  by_cases e : j = i
  · subst e
    rw [cell_setCell_self, k.at_ j hj']
    simp
  · rw [cell_setCell_far _ _ _ _ _ _ (by omega), k.at_ j hj', List.getElem_set_ne (by omega)]
theorem OwnB.ownD {w : World} {base : Nat} {v : Value} {l : List Int} (h : OwnB w base v l) (h0 : 0 < l.length) : ∃ g c, v = .slice (some ⟨g, 0, none⟩) l.length c ∧ l.length ≤ c ∧ c ≤ maxLen ∧ base ≤ g ∧ OwnD w g l := by
  obtain ⟨q, ca, hv, h1, h2, h3, hr⟩ := h.rd2 h0
  obtain ⟨g, o, e, _, h4, h5, h6⟩ := (ownsAt_of h).at_ hv (by omega)
  have e1 : q = g := congrArg (fun x : Option Addr => (x.getD ⟨0, 0, none⟩).block) e
  have e2 : 0 = o * 1 := congrArg (fun x : Option Addr => (x.getD ⟨0, 0, none⟩).off) e
  subst e1
  refine ⟨_, ca, hv, h1, h2, h3, h4, h6, fun j hj => ?_⟩
  have := h5 j (.int .u8 l[j]) (by unfold bvals; rw [List.getElem?_map, List.getElem?_eq_getElem hj]; rfl)
  rwa [← e2, Nat.zero_add] at this
theorem putB_step (B : Nat → Int) (a i : Nat) (l : List Int) (hi : i < l.length) (m : Nat) (hm : a + l.length ≤ m) : (bytesAt (putB B a (l.take i)) 0 m).set (a + i) l[i] = bytesAt (putB B a (l.take (i + 1))) 0 m := by
  apply List.ext_getElem
  · rw [List.length_set, bytesAt_length, bytesAt_length]
  · intro j h1 h2
    rw [bytesAt_length] at h2
    rw [bytesAt_get, Nat.zero_add]
    by_cases e : j = a + i
    · subst e
      rw [List.getElem_set_self]
      unfold putB
      rw [List.length_take, Nat.min_eq_left (by omega), if_pos (by omega), List.getD_eq_getElem?_getD, show a + i - a = i by omega, List.getElem?_take_of_lt (by omega), List.getElem?_eq_getElem hi]
      rfl
    · rw [List.getElem_set_ne (by omega), bytesAt_get, Nat.zero_add]
      unfold putB
      rw [List.length_take, List.length_take, Nat.min_eq_left (by omega), Nat.min_eq_left (by omega)]
      by_cases c : a ≤ j ∧ j < a + i
      · rw [if_pos c, if_pos (by omega), List.getD_eq_getElem?_getD, List.getD_eq_getElem?_getD, List.getElem?_take_of_lt (by omega), List.getElem?_take_of_lt (by omega)]
      · rw [if_neg c, if_neg (by omega)]
/-- string(bytes) among what a region reads in which one block turns. -/
theorem quiet_strT {q : Nat} {P : Program} {o : Oper} {a : Act} {w : World} {K : Act → Prop} (src dst e : TypeId) (x : Operand) (ho : o.op = .convert src dst x) (hs : P.underlying src = some (.slice e)) (he : P.underlying e = some (.int .u8))
    (hd : P.underlying dst = some .string) (A : Option Addr) (c n : Nat) (l : List Int) (hx : a.eval x = .slice A n c) (hn : n = l.length) (hr : RdB w A l) (hA : ∀ b o, A = some ⟨b, o, none⟩ → ¬ b = q) (h0 : l = [] → A = none) (k : K (a.put o.dst (.string (strOf l)))) : o.quiet P a (Turned q w) K := by
  subst hn
  refine ⟨_, fun w' hw' => ?_, k⟩
  obtain ⟨x, rfl⟩ := hw'
  have hr' : RdB (Go.Proofs.Ytgpeabbbeidhpaa.grow (turn w q x.obj) x.d) A l := fun h0 => by
    obtain ⟨b, o', hA', hb, hc⟩ := hr h0
    refine ⟨b, o', hA', by rw [grow_size, turn_size]; omega, fun j hj => ?_⟩
    rw [grow_cell _ _ _ _ (by rw [turn_size]; exact hb), turn_cell _ _ _ _ _ (hA b o' hA')]
    exact hc j hj
  have h1 := run_str_any (P := P) (Go.Proofs.Ytgpeabbbeidhpaa.grow (turn w q x.obj) x.d) src dst e hs he hd A c l hr' h0
  unfold Oper.quietAt execOp
  rw [ho]
  simp [hx, h1, Sem.run_bind, Sem.run_pure, Result.andThen, Oper.quietUpon]
  try exact ⟨x, rfl⟩

end Go.Proofs.Ytgpeabbbeidhpaa
